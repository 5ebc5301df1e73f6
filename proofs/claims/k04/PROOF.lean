import PyProof.Rows.All
import Wide.All
import OpenK.AllK
import Wide.FinOn
import Lean
import PyProof.EqAt
import PyProof.EqKinds
import PyProof.TupleCall
import PyProof.ExcArgsOwn
import PyProof.ExcAttrAll.ValueError
import PyProof.ListMulRoad
import PyProof.Rows.Range3
import PySem.Challenge.RW_drawndown_k04_lots_written_and_read
set_option Elab.async false
set_option linter.all false
set_option maxRecDepth 100000
set_option maxHeartbeats 1000000
set_option exponentiation.threshold 5000
open PySem PySem.Spec PyProof.Rows
abbrev _a:=@wpAny_bind
abbrev _b:=@List.getElem?_eq_some_iff
abbrev _c:=@List.length_cons
abbrev _d:=@Heap.get?_push_of_some
abbrev _e:=@Nat.lt_of_lt_of_le
abbrev _f:=@if_pos
abbrev _g:=@List.length_nil
abbrev _h:=@Heap.lt_size
abbrev _i:=@Nat.le_refl
abbrev _j:=@List.size_toArray
abbrev _k:=@wpAny_pure
abbrev _l:=@List.mem_cons
abbrev _m:=@Heap.get?_push_size
abbrev _n:=@List.mem_cons_of_mem
abbrev _o:=@if_neg
abbrev _p:=@List.getElem?_append_left
abbrev _q:=@Bool.and_eq_true
abbrev _r:=@List.mem_of_getElem?
abbrev _s:=@Option.some.inj
abbrev _t:=@List.getElem?_eq_getElem
abbrev _u:=@Nat.ne_of_lt
abbrev _v:=@Nat.le_trans
abbrev _w:=@List.getElem?_set_self
abbrev _x:=@Option.map_eq_some_iff
abbrev _y:=@List.getElem?_set_ne
abbrev _z:=@List.all_eq_true
abbrev _A:=@Nat.zero_add
abbrev _B:=@List.mem_cons_self
abbrev _C:=@PyProof.Rows.slot_tuple_getitem
abbrev _D:=@List.mem_append_right
abbrev _E:=@PySem.mem_of_lookup
abbrev _F:=@List.mem_append
abbrev _G:=@List.lookup_cons
abbrev _H:=@if_true
abbrev _I:=@Option.some.injEq
abbrev _J:=@wpAny_mono
abbrev _K:=@Bool.false_ne_true
abbrev _L:=@List.mem_map
abbrev _M:=@decide_eq_false
abbrev _N:=@List.map_cons
abbrev _O:=@List.getElem?_cons_succ
abbrev _P:=@List.getElem?_cons_zero
abbrev _Q:=@List.mem_of_mem_take
abbrev _R:=@List.length_map
abbrev _S:=@List.getElem?_map
abbrev _T:=@wpAny_field
abbrev _U:=@wpAny_loadPart_at
abbrev _V:=@Nat.lt_irrefl
abbrev _W:=@List.getElem?_take_of_lt
abbrev _X:=@beq_iff_eq
abbrev _Y:=@wpAny_callSpecial?_slot
abbrev _Z:=@Option.bind_some
abbrev _aa:=@wpAny_truthy_bool
abbrev _ab:=@Heap.size_push
abbrev _ac:=@Array.length_toList
abbrev _ad:=@List.foldl_cons
abbrev _ae:=@PassesOwn.never
abbrev _af:=@List.not_mem_nil
abbrev _ag:=@List.mem_iff_getElem
abbrev _ah:=@wpAny_newObj_type
abbrev _ai:=@List.getElem_mem
abbrev _aj:=@List.length_append
abbrev _ak:=@F.slot_tuple_iterator_next
abbrev _al:=@wpAny_seqItems
abbrev _am:=@wpAny_setField_rec
abbrev _an:=@PySem.F.slot_str_join
abbrev _ao:=@PySem.F.type_str_join
abbrev _ap:=@wpAny_passesOwn
abbrev _aq:=@List.mem_append_left
abbrev _ar:=@W.kia_one
abbrev _as:=@List.getElem?_replicate
abbrev _at:=@wpAny_call_entry
abbrev _au:=@decide_eq_true
abbrev _av:=@Option.bind_eq_some_iff
abbrev _aw:=@wpAny_Call_Name_kw
abbrev _ax:=@SeqAt.canLay_of_shaped
abbrev _ay:=@Int.lt_of_le_of_lt
abbrev _az:=@W.kia_tup
abbrev _aA:=@PyProof.Rows.callWith_type1
abbrev _aB:=@Function.comp_def
abbrev _aC:=@congrArg
abbrev _aD:=@PySem.F.excBase_ValueError
abbrev _aE:=@List.length_take
abbrev _aF:=@List.drop_eq_getElem_cons
abbrev _aG:=@List.filterMap_cons
abbrev _aH:=@PySem.F.args_tuple_add_2
abbrev _aI:=@List.append_nil
abbrev _aJ:=@Option.map_some
abbrev _aK:=@Bool.eq_iff_iff
abbrev _aL:=@List.mem_filterMap
abbrev _aM:=@typeIs_str
abbrev _aN:=@List.lookup_append
abbrev _aO:=@Int.emod_lt_of_pos
abbrev _aP:=@PySem.F.entry_tuple_add
abbrev _aQ:=@PySem.F.plainAttrs_list
abbrev _aR:=@PySem.F.slot_tuple_add
abbrev _aS:=@Int.toNat_natCast
abbrev _aT:=@PySem.F.slot_str_split
abbrev _aU:=@PySem.F.type_str_split
abbrev _aV:=@Array.all_eq_true_iff_forall_mem
abbrev _aW:=@F.typeOf_object_class
abbrev _aX:=@List.getElem_inj
abbrev _aY:=@call_meets
abbrev _aZ:=@Nat.lt_succ_self
abbrev _a0:=@wpAny_holding
abbrev _a1:=@List.all_cons
abbrev _a2:=@wpAny_updateSeq_pair
abbrev _a3:=@List.mem_of_mem_drop
abbrev _a4:=@wpAny_execs_nil
abbrev _a5:=@List.nodup_cons
abbrev _a6:=@List.of_mem_zip
abbrev _a7:=@wpAny_loadPart'
abbrev _a9:=@F.slot_zip_next
abbrev _ba:=@Int.emod_nonneg
abbrev _bb:=@List.length_pos_iff
abbrev _bc:=@List.map_congr_left
abbrev _be:=@Nat.pow_succ
abbrev _bj:=@List.set_cons_zero
abbrev _bk:=@List.set_cons_succ
abbrev _bl:=@F.args_str_split_2
abbrev _bm:=@or_false
abbrev _bo:=@Ne.symm
abbrev _bp:=@List.take_sublist
abbrev _bq:=@Nat.le_of_succ_le
abbrev _br:=@Nat.lt_succ_of_lt
abbrev _bs:=@F.entry_str_split
abbrev _bu:=@wpAny_onRaise
abbrev _bw:=@W.cellsFrom_some
abbrev _bx:=@noFill_tuple_add
abbrev _by:=@List.length_drop
abbrev _bz:=@List.prefix_refl
abbrev _bA:=@List.cons_append
abbrev _bB:=@Nat.le_add_right
abbrev _bC:=@Option.getD_some
abbrev _bG:=@F.slot_str_split
abbrev _bI:=@Nat.le_of_lt
abbrev _bJ:=@Nat.ne_of_gt
abbrev _bK:=@codeAny_mono
abbrev _bN:=@List.map_map
noncomputable section
namespace Dd
def dArgs(s:Stmt):Arguments:=match s with
 | .FunctionDef _ a _ _ _ _ _ _ _ _=>a | _=>{posonlyargs:=[],args:=[],vararg:=none,kwonlyargs:=[],kw_defaults:=[],kwarg:=none,defaults:=[]}
def z9I(s:Stmt):List Stmt:=match s with
 | .FunctionDef _ _ b _ _ _ _ _ _ _=>b | _=>[]
def z71(s:Stmt):Scope:=match s with
 | .FunctionDef _ _ _ _ _ _ sc _ _ _=>sc | _=>{kind:=.function,names:=[],isGenerator:=false,isCoroutine:=false}
def z2a(h:Heap)(a:Addr):W.Frag:=match h.get? a with | some o=>[(a,o)] | none=>[]
def zcr(h:Heap)(g:W.Frag)(x:Str):W.Frag:=match W.nsIn g mainGlobals x with
 | some (some (.ref f))=>z2a h f++(match h.get? f with
   | some ⟨_,_,.func fd,_⟩=>(match fd.code with | .ref c=>z2a h c | _=>[]) | some ⟨_,_,.cls cd,_⟩=>z2a h cd.ns | _=>[]) | _=>[]
def gat(h:Heap)(ns:List Str):W.Frag:=z2a h mainGlobals++ns.flatMap (zcr h (z2a h mainGlobals))
abbrev FV:=Str×Str×Arguments×FuncBody×Scope×Addr×List (Str×Addr)×Value×Addr×Bool×Bool
def z8j(K:W.Frag)(x:Str):Option FV:=match W.nsIn K mainGlobals x with
 | some (some (.ref f))=>(match K.lookup f with
   | some ⟨_,_,.func fd,_⟩=>some (fd.name,fd.qualname,fd.params,fd.body,fd.scope,fd.globals,fd.closure,fd.defaults,fd.builtins,W.codeIn K fd.code fd.qualname,W.keepIn K (.ref f)) | _=>none) | _=>none
def zbm(x:Str)(st:Stmt):Option FV:=some (x,x,dArgs st,.stmts (z9I st),z71 st,mainGlobals,[],.none,builtinsNs,true,true)
def z7O(K:W.Frag)(x:Str):Bool:=match W.nsIn K mainGlobals x with | some none=>true | _=>false
def z8H(K:W.Frag)(x:Str):Option Int:=match W.nsIn K mainGlobals x with | some (some (.int i _))=>some i | _=>none
def sameRef:Value->Option (Option Value)->Bool
 | .ref f,some (some (.ref g))=>f==g | _,_=>false
def zaE:Value->Option Str
 | .str k _=>some k | _=>none
def z4B:Value->Bool
 | .type c=>c=="dict" | _=>false
def z97(K:W.Frag):List DictEntry->List Str->List (Int×Option Str×Bool)
 | e::es,y::ys=>(e.hash,zaE e.key,sameRef e.val (W.nsIn K mainGlobals y))::z97 K es ys | [],[]=>[] | _,_=>[(0,none,false)]
def zbN(K:W.Frag)(x:Str)(ys:List Str):Option (Bool×Bool×Bool×Bool×List (Int×Option Str×Bool)):=match W.nsIn K mainGlobals x with
 | some (some (.ref a))=>(match K.lookup a with
   | some ⟨c,d,.dict es _,sl⟩=>some (z4B c,d.isNone,sl.size==0,a==sysModules,z97 K es.toList ys) | _=>none) | _=>none
def zcL(w:World)(tb:List (Str×Str)):Option (Bool×Bool×Bool×Bool×List (Int×Option Str×Bool)):=some (true,true,true,false,tb.map λp=>(PyData.keyHash w.params p.1,some p.1,true))
def zal:List Value->Option (List Int)
 | []=>some [] | .int i _::r=>(zal r).map (i::·) | _=>none
def z5H:Value->Bool
 | .type c=>c=="tuple" | _=>false
def zbb(K:W.Frag)(x:Str):Option (Bool×Option (List Int)):=match W.nsIn K mainGlobals x with
 | some (some (.ref a))=>(match K.lookup a with
   | some ⟨c,_,.seq its _,_⟩=>some (z5H c,zal its.toList) | _=>none) | _=>none
def bmV:List Value:=[.type "ValueError",.type "Exception",.type "BaseException",.type "object"]
def jT(K:W.Frag)(C:Addr):Bool:=match K.lookup C with | some ⟨.type t,_,.cls _,_⟩=>t=="type" | _=>false
def kW(K:W.Frag)(x:Str):Bool:=match W.nsIn K mainGlobals x with
 | some (some (.ref C))=>W.excIn K C bmV "ValueError.__new__"&&(W.findIn K (.ref C) "__getattribute__"==some (some (.builtin "BaseException.__getattribute__"))&&(W.findIn K (.ref C) "__getattr__"==some none && (W.findIn K (.ref C) "__class__"==some (some (.builtin "object.__class__"))&&(W.mroIn K C (.type "object")==some true&&(W.mroIn K C (.type "BaseException")==some true&&(jT K C&&W.kitOne K (.ref C) (.type "ValueError")==some true)))))) | _=>false
def kI(K:W.Frag)(x y:Str):Option (Option Bool×Option Bool):=match W.nsIn K mainGlobals x,W.nsIn K mainGlobals y with
 | some (some (.ref C)),some (some (.ref D))=>some (W.mroIn K C (.ref D),W.kitOne K (.ref C) (.ref D)) | _,_=>none
abbrev Obs:=List (Option FV)×List Bool×List (Option Int)×List (Option (Bool×Bool×Bool×Bool×List (Int×Option Str×Bool)))×List (Option (Bool×Option (List Int)))×List Bool×List (Option (Option Bool×Option Bool))
structure Ask where
 fs:List (Str×Stmt)
 bs:List Str
 cs:List (Str×Int)
 ts:List (Str×List (Str×Str))
 us:List (Str×List Int)
 xs:List Str
 ps:List ((Str×Str)×Bool)
def z4C(q:Ask)(K:W.Frag):Obs:=(q.fs.map λp=>z8j K p.1,q.bs.map (z7O K),q.cs.map λp=>z8H K p.1,q.ts.map (λp=>zbN K p.1 (p.2.map (·.2))),q.us.map (λp=>zbb K p.1),q.xs.map (kW K),q.ps.map λp=>kI K p.1.1 p.1.2)
def obsS(q:Ask)(s:Shared):Obs:=z4C q (gat s.heap (q.fs.map (·.1)++q.ts.map (·.1)++q.us.map (·.1)++q.xs))
def valS(q:Ask)(w:World):Obs:=(q.fs.map λp=>zbm p.1 p.2,q.bs.map λ_=>true,q.cs.map λp=>some p.2,q.ts.map (λp=>zcL w p.2),q.us.map (λp=>some (true,some p.2)),q.xs.map λ_=>true,q.ps.map λp=>some (some p.2,some p.2))
def jU(tb:String->Option Builtin)(p:Program)(w:World)(n₀:Nat)(ann:Option Value):Nat->W.SharedT->Thread->Option W.SharedT
 | 0,_,_=>none | n+1,s,t=>match W.through t with
  | true=>some s | false=>match W.stepOk n₀ ann t with
   | false=>none | true=>match W.stepT (denote tb) p w s t with
    | some (s',t')=>jU tb p w n₀ ann n s' t' | none=>none
def z9s(l:List Obj):W.BT×Nat:=l.foldl (λa o=>(a.1.ins a.2 o,a.2+1)) (W.BT.nil,0)
def z9d(P:Params):W.BT:=(z9s (W.boot_heap P).objs.toList).1
end Dd
namespace K04
open Dd
def top(i:Nat):Stmt:=PySem.Challenge.pw_drawndown_k04_lots_written_and_read.main.body.getD i (.Pass ⟨0,0,0,0⟩)
abbrev uu:Stmt:=top 22
abbrev um:Stmt:=top 24
abbrev vp:Stmt:=top 33
abbrev wB:Stmt:=top 34
abbrev vS:Stmt:=top 35
abbrev xP:Stmt:=top 37
abbrev uw:Stmt:=top 38
abbrev vT:Stmt:=top 39
abbrev vt:Stmt:=top 41
abbrev xL:Stmt:=top 44
abbrev wT:Stmt:=top 23
abbrev ut:Stmt:=top 40
abbrev wz:Stmt:=top 42
abbrev ur:Stmt:=top 43
abbrev wg:Stmt:=top 45
abbrev kc:Stmt:=top 26
abbrev uq:Stmt:=top 46
abbrev xk:Stmt:=top 48
abbrev uh:Stmt:=top 27
abbrev z2m:Stmt:=top 32
abbrev qc:Stmt:=top 31
abbrev vD:Stmt:=top 47
abbrev kD:Stmt:=top 49
def askQ:Ask:=⟨[(("is_whole":Str),uu), (("has_size":Str),um), (("in_figures":Str),vp), (("are_figures":Str),wB), (("number_in":Str),vS), (("_law_cell_at":Str),xP), (("_law_pot":Str),uw), (("_law_take":Str),vT), (("_law_whole":Str),vt), (("_law_kind_of":Str),xL), (("are_wholes":Str),wT), (("_law_lot":Str),ut), (("_law_is_lot":Str),wz), (("_law_odd":Str),ur), (("_law_same":Str),wg), (("is_lot":Str),kc), (("_law_due":Str),uq), (("_law_bent_text":Str),xk), (("want_lot":Str),uh), (("read":Str),z2m), (("written":Str),qc), (("_law_told":Str),vD), (("law":Str),kD)], [("ValueError":Str),("all":Str),("bool":Str),("int":Str),("isinstance":Str),("len":Str),("list":Str),("max":Str),("min":Str),("range":Str),("str":Str),("tuple":Str),("zip":Str)], [(("LEAST_SIZE":Str),(2:Int)),(("MOST_SIZE":Str),(4:Int))], [], [], [("DrawError":Str),("Ended":Str),("NoBottom":Str),("NoCube":Str),("NoDeed":Str),("NoLot":Str),("NoNumber":Str),("NoRoot":Str),("NoRow":Str),("NoRule":Str),("NoSize":Str),("NoStep":Str),("NoTable":Str),("NoText":Str),("NoTuple":Str),("NotAlike":Str),("NotFair":Str),("TooMany":Str)], [((("NoLot":Str),("NoLot":Str)),true),((("NoLot":Str),("NoTable":Str)),false),((("NoLot":Str),("NoTuple":Str)),false),((("NoLot":Str),("NotAlike":Str)),false),((("NoLot":Str),("NotFair":Str)),false),((("NoLot":Str),("NoText":Str)),false),((("NoLot":Str),("NoRule":Str)),false),((("NoLot":Str),("Ended":Str)),false),((("NoLot":Str),("NoBottom":Str)),false),((("NoLot":Str),("NoRoot":Str)),false),((("NoLot":Str),("NoCube":Str)),false),((("NoLot":Str),("NoSize":Str)),false),((("NoLot":Str),("NoNumber":Str)),false),((("NoLot":Str),("TooMany":Str)),false),((("NoLot":Str),("NoStep":Str)),false),((("NoLot":Str),("NoDeed":Str)),false),((("NoLot":Str),("NoRow":Str)),false),((("NoText":Str),("NoLot":Str)),false),((("NoText":Str),("NoTable":Str)),false),((("NoText":Str),("NoTuple":Str)),false),((("NoText":Str),("NotAlike":Str)),false),((("NoText":Str),("NotFair":Str)),false),((("NoText":Str),("NoText":Str)),true),((("NoText":Str),("NoRule":Str)),false),((("NoText":Str),("Ended":Str)),false),((("NoText":Str),("NoBottom":Str)),false),((("NoText":Str),("NoRoot":Str)),false),((("NoText":Str),("NoCube":Str)),false),((("NoText":Str),("NoSize":Str)),false),((("NoText":Str),("NoNumber":Str)),false),((("NoText":Str),("TooMany":Str)),false),((("NoText":Str),("NoStep":Str)),false),((("NoText":Str),("NoDeed":Str)),false),((("NoText":Str),("NoRow":Str)),false),((("NoLot":Str),("DrawError":Str)),true),((("NoText":Str),("DrawError":Str)),true)]⟩
def qv:Program:=W.view PySem.Challenge.pw_drawndown_k04_lots_written_and_read [49]
def looseQ:List Str:=[("DrawError":Str),("NoLot":Str),("NoTable":Str),("NoTuple":Str),("NotAlike":Str),("NotFair":Str),("NoText":Str),("NoRule":Str),("Ended":Str),("NoBottom":Str),("NoRoot":Str),("NoCube":Str),("NoSize":Str),("NoNumber":Str),("TooMany":Str),("NoStep":Str),("NoDeed":Str),("NoRow":Str),("LEAST_SIZE":Str),("MOST_SIZE":Str),("is_whole":Str),("are_wholes":Str),("has_size":Str),("is_lot":Str),("want_lot":Str),("FIGURES":Str),("BETWEEN":Str),("written":Str),("read":Str),("in_figures":Str),("are_figures":Str),("number_in":Str),("_law_cell_at":Str),("_law_pot":Str),("_law_take":Str),("_law_lot":Str),("_law_whole":Str),("_law_is_lot":Str),("_law_odd":Str),("_law_kind_of":Str),("_law_same":Str),("_law_due":Str),("_law_told":Str),("_law_bent_text":Str)]
def lvQ:List (Str×W.WData):=[(("BETWEEN":Str),.str ":"),(("FIGURES":Str),.str "0123456789")]
def xtQ:Shared->Bool:=λs=>W.xlAt qv lvQ s&&W.recOk (W.RowW.records (W.OpenRow.toRowW (W.OpenLaw.row PySem.Challenge.rw_drawndown_k04_lots_written_and_read))) s
theorem zcP:∀w:World,W.absHeap (z9d w.params) 11 (W.boot_heap w.params).life=W.boot_heap w.params:=by
 intro w;kernel_rfl
theorem bsz:∀w:World,((W.boot_heap w.params).isNs mainGlobals&&(Array.mk []:Array GenState).size==0,(W.boot_heap w.params).objs.size,(W.boot_heap w.params).nsMap mainGlobals "__annotations__")=(true,11,(some (.ref 6))):=by
 intro w;kernel_rfl
def zcg(w v:World)(os:OsState):Option W.SharedT:=jU treeTable PySem.Challenge.pw_drawndown_k04_lots_written_and_read v 11 (some (.ref 6)) 9212 ⟨z9d w.params,11,(W.boot_heap w.params).life,Array.mk [],W.boot_drawn,W.boot_toks,os⟩ (W.topStub PySem.Challenge.pw_drawndown_k04_lots_written_and_read)
def zbU(w:World)(s:W.SharedT):Bool:=W.staticsOk (importedModules PySem.Challenge.pw_drawndown_k04_lots_written_and_read.main.body) (W.boot_heap w.params) s.abs.heap&&W.namesBound PySem.Challenge.pw_drawndown_k04_lots_written_and_read s.abs.heap&&W.gensDone s.abs&&W.laidKept (W.boot_heap w.params) s.abs.heap
def seenQ(s:Shared):=W.openSeen qv looseQ (importedModules PySem.Challenge.pw_drawndown_k04_lots_written_and_read.main.body) xtQ true s
set_option maxRecDepth 1000000 in
theorem z5N:∀(w:World)(os:OsState),(zcg w w os).map (λs=>(zbU w s,obsS askQ s.abs))=some (true,valS askQ w):=by
 intro w os;kernel_rfl
set_option maxRecDepth 1000000 in
theorem z65:∀(w:World)(os:OsState),(zcg w w os).map (λs=>seenQ s.abs)=some (W.openGood qv looseQ):=by
 intro w os;kernel_rfl
end K04
namespace L2
abbrev Key:=Sum Int Str
def za9:Key->Value->Bool
 | .inl k,v=>Value.isInt k v | .inr x,v=>Value.isStrOf x v
def zdv(w:World):Key->Int
 | .inl k=>hashInt k | .inr x=>hashStr w x
theorem yj:∀{k:Key} {v:Value},za9 k v=true->(∃i t,k=Sum.inl i/\v=Value.int i t)\/(∃x t,k=Sum.inr x/\v=Value.str x t)
 | .inl i,v,h=>by
  obtain⟨t,e⟩:=Value.isInt_shape (k:=i) (v:=v) h;exact .inl ⟨i,t,rfl,e⟩ | .inr x,v,h=>by
  obtain⟨t,e⟩:=Value.isStrOf_shape (x:=x) (v:=v) h;exact .inr ⟨x,t,rfl,e⟩
theorem zaD(a b:Int):decide ((Sum.inl a:Key)=Sum.inl b)=(a==b):=by
 by_cases e:a=b;·subst e;simp
 ·have h:¬ (Sum.inl a:Key)=Sum.inl b:=λq=>e (Sum.inl.inj q);rw[_M h];exact (beq_eq_false_iff_ne.mpr e).symm
theorem zaK(a b:Str):decide ((Sum.inr a:Key)=Sum.inr b)=decide (a=b):=by
 by_cases e:a=b;·subst e;simp
 ·have h:¬ (Sum.inr a:Key)=Sum.inr b:=λq=>e (Sum.inr.inj q);rw[_M h,_M e]
theorem z9m(a:Int)(b:Str):decide ((Sum.inl a:Key)=Sum.inr b)=false:=_M (λq=>nomatch q)
theorem z9t(a:Str)(b:Int):decide ((Sum.inr a:Key)=Sum.inl b)=false:=_M (λq=>nomatch q)
def z4K(prog:Program)(w:World):PySem.KeyKind prog w Key where
 is:=za9;hash:=zdv w;inj:=λv a b ha hb=>by
  rcases yj ha with⟨i,t,rfl,rfl⟩ | ⟨x,t,rfl,rfl⟩
  ·rcases yj hb with⟨j,u,rfl,e⟩ | ⟨y,u,rfl,e⟩;·injection e with e1 _;rw[e1]
   ·exact nomatch e
  ·rcases yj hb with⟨j,u,rfl,e⟩ | ⟨y,u,rfl,e⟩;·exact nomatch e
   ·injection e with e1 _;rw[e1]
 byValue:=λk v h=>by rcases yj h with⟨i,t,rfl,rfl⟩ | ⟨x,t,rfl,rfl⟩<;>rfl
 pyHash:=λhv h=>by
  rcases yj hv with⟨i,t,rfl,rfl⟩ | ⟨x,t,rfl,rfl⟩;·exact wpAny_pyHash_int h
  ·exact wpAny_pyHash_str h
 eqBool:=λhu hv h=>by
  rcases yj hu with⟨i,t,rfl,rfl⟩ | ⟨x,t,rfl,rfl⟩
  ·rcases yj hv with⟨j,u,rfl,rfl⟩ | ⟨y,u,rfl,rfl⟩;·rw[zaD]at h;exact wpAny_eqBool_int h
   ·rw[z9m]at h;exact SeqAt.EqAt.int_str i t y u _ _ _ _ h
  ·rcases yj hv with⟨j,u,rfl,rfl⟩ | ⟨y,u,rfl,rfl⟩;·rw[z9t]at h;exact SeqAt.EqAt.str_int x t j u _ _ _ _ h
   ·rw[zaK]at h;exact wpAny_eqBool_str h
 «strs» := λk x t v h=>by
  rcases yj h with⟨i,u,rfl,e⟩ | ⟨y,u,rfl,e⟩;·exact nomatch e
  ·injection e with e1 _;subst e1;cases v<;>rfl
inductive V where | non | bl (b:Bool) | int (i:Int) | str (x:Str) | byt (b:Array UInt8) | flt (b:UInt64) | ref (a:Addr) | ty (n:String) deriving DecidableEq
def yP:V->Value->Prop
 | .non,u=>u=Value.none | .bl b,u=>u=Value.bool b | .int i,u=>∃t,u=Value.int i t | .str x,u=>∃t,u=Value.str x t | .byt b,u=>∃t,u=Value.bytes b t | .flt b,u=>∃t,u=Value.float b t | .ref a,u=>u=Value.ref a | .ty n,u=>u=Value.type n
abbrev yt:List V->List Value->Prop:=Paired yP
theorem yt.length{xs:List V}{us:List Value}(r:yt xs us):xs.length=us.length:=Paired.length r
theorem yt.get:∀{xs:List V} {us:List Value} {i:Nat} {x:V},yt xs us->xs[i]? = some x->∃u,us[i]? = some u/\yP x u
 | _,_,_,_,.nil,e=>by simp at e | _,_,0,_,.cons r _,e=>by simp at e;subst e;exact⟨_,rfl,r⟩ | _,_,i+1,x,.cons _ t,e=>by
  obtain⟨u,h1,h2⟩:=yt.get (i:=i) (x:=x) t (by simpa using e);exact⟨u,by simpa using h1,h2⟩
theorem yt.set{x:V}{u:Value}(r:yP x u):∀{xs:List V}{us:List Value}(i:Nat),yt xs us->yt (xs.set i x) (us.set i u)
 | _,_,_,.nil=>.nil | _,_,0,.cons _ t=>.cons r t | _,_,i+1,.cons q t=>.cons q (yt.set r i t)
theorem yt.append:∀{xs ys:List V}{us ws:List Value},yt xs us->yt ys ws->yt (xs++ys) (us++ws)
 | _,_,_,_,.nil,s=>s | _,_,_,_,.cons r t,s=>.cons r (yt.append t s)
theorem yt.take:∀{xs:List V}{us:List Value}(n:Nat),yt xs us->yt (xs.take n) (us.take n)
 | _,_,0,_=>.nil | _,_,_+1,.nil=>.nil | _,_,n+1,.cons r t=>.cons r (yt.take n t)
theorem yt.drop:∀{xs:List V}{us:List Value}(n:Nat),yt xs us->yt (xs.drop n) (us.drop n)
 | _,_,0,r=>r | _,_,_+1,.nil=>.nil | _,_,n+1,.cons _ t=>yt.drop n t
def zca:Option V->Option Value->Prop
 | some v,some u=>yP v u | none,none=>True | _,_=>False
def KV{κ:Type}:List (κ×V)->List (κ×Value)->Prop:=Paired λ(p:κ×V)(q:κ×Value)=>p.1=q.1/\yP p.2 q.2
def kV:Key->V
 | .inl i=>.int i | .inr x=>.str x
inductive HO where | lst (xs:List V) | tup (xs:List V) | dK (kvs:List (Key×V)) | dT (kvs:List (List Key×V)) | set (S:Int->Bool)(n:Nat) | ins (C dx:Addr)(fs:List (Str×V)) | own (x:Addr) | xd (fs:List (Str×V)) | met (f x:Addr) | rng (lo hi:Int) | frz (o:Obj)(u:HO) | tbl (ps:Array Value) | ext (φ:Heap->Prop)
abbrev Hp:=Addr->Option HO
def upd(H:Hp)(a:Addr)(o:HO):Hp:=λb=>if b=a then some o else H b
theorem ya{H:Hp}{a:Addr}{o:HO}:upd H a o a=some o:=by unfold upd;rw[_f rfl]
theorem zu{H:Hp}{a b:Addr}{o:HO}(h:b≠a):upd H a o b=H b:=by unfold upd;rw[_o h]
theorem z7x{H:Hp}{a:Addr}{o u:HO}:upd (upd H a o) a u=upd H a u:=by funext b;unfold upd;split<;>rfl
theorem yf{H:Hp}{a b:Addr}{o:HO}(h:H a=some o)(h':H b=none):a≠b:=by intro e;subst e;rw[h]at h';cases h'
def z5p(h:Heap)(a:Addr)(items:Array Value):Prop:=∃o,h.get? a=some o/\o.cls=.type "tuple"/\o.dict=none/\∃n,o.data=.seq items n
theorem z5p.tup{h:Heap}{a:Addr}{items:Array Value}(x:z5p h a items):IsTup h a items:=let ⟨o,e,c,_,r⟩:=x;⟨o,e,c,r⟩
theorem z5p.new(h:Heap)(items:Array Value):z5p (h.push {cls:=.type "tuple",data:=.seq items}) h.objs.size items:=⟨_,_m _ rfl,rfl,rfl,_,rfl⟩
theorem z5p.lt{h:Heap}{a:Addr}{items:Array Value}(x:z5p h a items):a<h.objs.size:=x.tup.lt
section
variable (P:Program)(w:World)
def yF(H:Hp)(h:Heap)(a:Addr):HO->Prop
 | .lst xs=>xs.length<=sizeLine/\∃(its:List Value)(n:Nat),yt xs its/\h.get? a=some {cls:=.type "list",data:=.seq its.toArray n} | .tup xs=>xs.length<=sizeLine/\∃its:List Value,yt xs its/\z5p h a its.toArray | .dK kvs=>kvs.length<=sizeLine/\(a==sysModules)=false/\∃vs,KV kvs vs/\h.DictOf (z4K P w) a vs | .dT kvs=>kvs.length<=sizeLine/\(a==sysModules)=false/\∃xs:List (List Key×Addr×Value), Paired (λ(p:List Key×V)(q:List Key×Addr×Value)=>p.1=q.1/\H q.2.1=some (.tup (p.1.map kV))/\yP p.2 q.2.2) kvs xs/\ ∃o es ep,h.get? a=some o/\o.ExactDict/\o.data=.dict es ep/\es.toList=xs.map (entryOfKey (tupleKind (z4K P w)))/\(xs.map (·.1)).Nodup | .set S n=>h.SetOf (intKind P w) a S n | .ins C dx fs=>H dx=some (.own a)/\fs.length<=1000/\dx≠a/\h.get? a=some (W.instObj C dx)/\ ∃mA,h.Ns1 dx mA/\(∀f,zca (fs.lookup f) (mA f))/\PySem.Within mA (fs.map (·.1)) | .own _=>∃o,h.get? a=some o | .xd fs=>∃mA,h.Ns1 a mA/\∀f,zca (fs.lookup f) (mA f) | .rng lo hi=>∃t u v,h.get? a=some {cls:=.type "range",data:=.fields #[.int lo t,.int hi u,.int 1 v]} | .frz o u=>h.get? a=some o/\yF H h a u | .tbl ps=>h.get? a=some {cls:=.none,data:=.fields ps} | .met f x=>h.get? a=some (W.methodObj (.ref f) (.ref x)) | .ext φ=>φ h/\(∃o,h.get? a=some o)/\∀h1 h2:Heap,φ h1->(∀o,h1.get? a=some o->h2.get? a=some o)->φ h2
def HOk(H:Hp)(h:Heap):Prop:=∀a o,H a=some o->yF P w H h a o
end
section
variable {P:Program}{w:World}{H H':Hp}{h h':Heap}{a:Addr}{o:HO}
theorem yF.lt(x:yF P w H h a o):a<h.objs.size:=by cases o with
 | lst xs=>obtain⟨_,_,_,_,e⟩:=x;exact _h e | tup xs=>obtain⟨_,_,_,p⟩:=x;exact p.lt | dK kvs=>obtain⟨_,_,_,_,o,_,_,e,_⟩:=x;exact _h e | dT kvs=>obtain⟨_,_,_,_,o,_,_,e,_⟩:=x;exact _h e | set S n=>obtain⟨o,_,_,_,e,_⟩:=x;exact _h e | ins C dx fs=>obtain⟨_,_,_,e,_⟩:=x;exact _h e | own y=>obtain⟨_,e⟩:=x;exact _h e | xd fs=>obtain⟨_,⟨_,_,_,e,_⟩,_⟩:=x;exact _h e | rng lo hi=>obtain⟨_,_,_,e⟩:=x;exact _h e | frz ob u=>obtain⟨e,_⟩:=x;exact _h e | tbl ps=>exact _h (show h.get? a=some _ from x) | met f y=>exact _h (show h.get? a=some _ from x) | ext φ=>obtain⟨_,⟨_,e⟩,_⟩:=x;exact _h e
theorem Paired.mapP{α β:Type}{F G:α->β->Prop}:∀{l₁:List α}{l₂:List β},Paired F l₁ l₂->(∀a b,F a b->G a b)->Paired G l₁ l₂
 | _,_,.nil,_=>.nil | _,_,.cons r t,f=>.cons (f _ _ r) (Paired.mapP t f)
theorem yF.stay(x:yF P w H h a o)(k:∀b u,(b=a\/H b=some (.own a))->h.get? b=some u->h'.get? b=some u) (ho:∀b,H b=some (.own a)->H' b=some (.own a))(ht:∀b xs,H b=some (.tup xs)->H' b=some (.tup xs)):yF P w H' h' a o:=by induction o with
 | lst xs=>obtain⟨z,its,n,r,e⟩:=x;exact⟨z,its,n,r,k _ _ (.inl rfl) e⟩ | tup xs=>obtain⟨z,its,r,ob,e,c⟩:=x;exact⟨z,its,r,ob,k _ _ (.inl rfl) e,c⟩ | dK kvs=>obtain⟨z,y,vs,r,ob,es,ep,e,c⟩:=x;exact⟨z,y,vs,r,ob,es,ep,k _ _ (.inl rfl) e,c⟩ | dT kvs=>
  obtain⟨z,y,xs,r,ob,es,ep,e,c⟩:=x;exact⟨z,y,xs,Paired.mapP r λp q z=>⟨z.1,ht _ _ z.2.1,z.2.2⟩,ob,es,ep,k _ _ (.inl rfl) e,c⟩ | set S n=>obtain⟨ob,es,ep,t,e,c⟩:=x;exact⟨ob,es,ep,t,k _ _ (.inl rfl) e,c⟩ | ins C dx fs=>
  obtain⟨d,z,ne,e,mA,⟨od,es,ep,e2,c⟩,r⟩:=x;exact⟨ho _ d,z,ne,k _ _ (.inl rfl) e,mA,⟨od,es,ep,k _ _ (.inr d) e2,c⟩,r⟩ | own y=>obtain⟨ob,e⟩:=x;exact⟨ob,k _ _ (.inl rfl) e⟩ | xd fs=>obtain⟨mA,⟨od,es,ep,e,c⟩,r⟩:=x;exact⟨mA,⟨od,es,ep,k _ _ (.inl rfl) e,c⟩,r⟩ | rng lo hi=>obtain⟨t,u,v,e⟩:=x;exact⟨t,u,v,k _ _ (.inl rfl) e⟩ | frz ob u ih=>obtain⟨e,q⟩:=x;exact⟨k _ _ (.inl rfl) e,ih q⟩ | tbl ps=>
  have e:h.get? a=some {cls:=.none,data:=.fields ps}:=x;show h'.get? a=some {cls:=.none,data:=.fields ps};exact k a _ (.inl rfl) e | met f y=>
  have e:h.get? a=some (W.methodObj (.ref f) (.ref y)):=x;show h'.get? a=some (W.methodObj (.ref f) (.ref y));exact k a _ (.inl rfl) e | ext φ=>obtain⟨p,⟨o,e⟩,st⟩:=x;exact⟨st _ _ p λo q=>k _ _ (.inl rfl) q,⟨o,k _ _ (.inl rfl) e⟩,st⟩
theorem HOk.lt(x:HOk P w H h)(e:H a=some o):a<h.objs.size:=(x a o e).lt
theorem HOk.fresh(x:HOk P w H h)(e:h.objs.size<=a):H a=none:=by cases q:H a with
 | none=>rfl | some u=>exact absurd (_e (x.lt q) e) (_V _)
theorem HOk.kept(x:HOk P w H h)(k:∀b u,h.get? b=some u->h'.get? b=some u):HOk P w H h':=λa o e=> (x a o e).stay (λb u _ q=>k b u q) (λ_ q=>q) λ_ _ q=>q
theorem HOk.laid(x:HOk P w H h)(k:∀b u,h.get? b=some u->h'.get? b=some u)(hp:h.objs.size<=a)(new:yF P w (upd H a o) h' a o):HOk P w (upd H a o) h':=λb u e=>by
 have hn:=x.fresh hp;by_cases hb:b=a;·subst hb;rw[ya]at e;cases e;exact new
 ·rw[zu hb]at e;exact (x b u e).stay (λc v _ q=>k c v q) (λc q=>by rw[zu (yf q hn)];exact q) λc xs q=>by rw[zu (yf q hn)];exact q
end
def Rd(H:Hp)(a:Addr)(u:HO):Prop:=H a=some u\/∃o,H a=some (.frz o u)
theorem Rd.ok{P:Program}{w:World}{H:Hp}{h:Heap}{a:Addr}{u:HO}(r:Rd H a u)(x:HOk P w H h):yF P w H h a u:=by
 rcases r with r | ⟨o,r⟩;·exact x a u r
 ·obtain⟨_,q⟩:=x a _ r;exact q
def Mut:Option HO->Prop
 | some (.lst _)=>True | some (.dK _)=>True | some (.dT _)=>True | some (.set _ _)=>True | some (.ins _ _ _)=>True | some (.ext _)=>True | _=>False
section
variable {P:Program}{w:World}{H:Hp}{h h':Heap}{x e:Addr}{o':HO}
theorem HOk.write(ok:HOk P w H h)(mu:Mut (H x))(he:e=x\/H e=some (.own x))(k:∀b u,b≠e->h.get? b=some u->h'.get? b=some u)(heo:∃u,h'.get? e=some u) (new:yF P w (upd H x o') h' x o'):HOk P w (upd H x o') h':=λb u q=>by
 have nown:∀c y,H c=some (.own y)->c≠x:=λc y r z=>by subst z;rw[r]at mu;exact mu
 have ntup:∀c xs,H c=some (.tup xs)->c≠x:=λc xs r z=>by subst z;rw[r]at mu;exact mu
 by_cases hb:b=x;·subst hb;rw[ya]at q;cases q;exact new
 ·rw[zu hb]at q;by_cases hbe:b=e
  ·have q':H b=some (.own x):=by
    rcases he with z | z;·exact absurd (hbe.trans z) hb
    ·rw[hbe];exact z
   rw[q]at q';cases q';obtain⟨v,hv⟩:=heo;exact⟨v,by rw[hbe];exact hv⟩
  ·refine (ok b u q).stay (λc v hc r=>k c v ?_ r) (λc r=>by rw[zu (nown c b r)];exact r) λc xs r=>by rw[zu (ntup c xs r)];exact r
   rcases hc with rfl | hc;·exact hbe
   ·rintro rfl;rcases he with z | z;·exact nown c b hc z
    ·rw[hc]at z;cases z;exact hb rfl
end
structure Un(fs ex:List Addr)(H H':Hp)(h h':Heap):Prop where
 keep:∀b o,h.get? b=some o->H b=none->b∉fs->b∉ex->h'.get? b=some o
 slot:∀b o,h.get? b=some o->H b=none->b∈fs->b∉ex->∃sl,h'.get? b=some {o with slots:=sl}
 free:∀b o,h.get? b=some o->H b=none->b∉ex->H' b=none
 there:∀b o,h.get? b=some o->b∉ex->∃o',h'.get? b=some o'
 tups:∀b xs,H b=some (.tup xs)->H' b=some (.tup xs)
 frzs:∀b o u,H b=some (.frz o u)->H' b=some (.frz o u)
 tbls:∀b ps,H b=some (.tbl ps)->∃more,H' b=some (.tbl (ps++more))
section
variable {fs fs' ex ex':List Addr}{H H1 H2:Hp}{h h1 h2 h':Heap}{a x e:Addr}{o:HO}
theorem Un.any(u:Un fs ex H H1 h h1){b:Addr}{ob:Obj}(q:h.get? b=some ob)(n:H b=none)(hx:b∉ex):∃sl,h1.get? b=some {ob with slots:=sl}:=by
 by_cases hb:b∈fs;·exact u.slot b ob q n hb hx
 ·exact⟨ob.slots,u.keep b ob q n hb hx⟩
theorem Un.kept(k:∀b u,h.get? b=some u->h'.get? b=some u):Un fs ex H H h h':= ⟨λb ob q _ _ _=>k b ob q,λb ob q _ _ _=>⟨ob.slots,k b ob q⟩,λ_ _ _ n _=>n,λb ob q _=>⟨ob,k b ob q⟩,λ_ _ q=>q,λ_ _ _ q=>q,λ_ ps q=>⟨#[],by rw[q];simp⟩⟩
theorem Un.refl:Un fs ex H H h h:=Un.kept λ_ _ q=>q
theorem Un.laid(k:∀b u,h.get? b=some u->h'.get? b=some u)(hp:h.objs.size<=a)(hn:H a=none):Un fs ex H (upd H a o) h h' where
 keep:=λb u q _ _ _=>k b u q;slot:=λb u q _ _ _=>⟨u.slots,k b u q⟩;free:=λb u q n _=>by rw[zu (_u (_e (_h q) hp))];exact n
 there:=λb u q _=>⟨u,k b u q⟩;tups:=λb xs q=>by rw[zu (yf q hn)];exact q
 frzs:=λb u xs q=>by rw[zu (yf q hn)];exact q
 tbls:=λb ps q=>⟨#[],by rw[zu (yf q hn),q];simp⟩
theorem Un.write(mu:Mut (H x))(he:e=x\/H e=some (.own x))(k:∀b u,b≠e->h.get? b=some u->h'.get? b=some u)(heo:∃u,h'.get? e=some u):Un fs ex H (upd H x o) h h':=by
 have hx:∀b,H b=none->b≠x:=λb n z=>by subst z;rw[n]at mu;exact mu
 have hb:∀b,H b=none->b≠e:=λb n z=>by
  subst z;rcases he with r | r;·exact hx b n r
  ·rw[n]at r;cases r
 have hm:∀b u,H b=some u->¬ Mut (some u)->b≠x:=λb u q nm z=>by subst z;rw[q]at mu;exact nm mu
 refine⟨λb u q n _ _=>k b u (hb b n) q,λb u q n _ _=>⟨u.slots,k b u (hb b n) q⟩,λb u q n _=>by rw[zu (hx b n)];exact n,λb u q _=>?_, λb xs q=>by rw[zu (hm b _ q λz=>z)];exact q,λb u xs q=>by rw[zu (hm b _ q λz=>z)];exact q,λb ps q=>⟨#[],by rw[zu (hm b _ q λz=>z),q];simp⟩⟩;by_cases hbe:b=e;·subst hbe;exact heo
 ·exact⟨u,k b u hbe q⟩
end
def trk(h:Heap)(H:Hp):List Addr:=(List.range h.objs.size).filter λa=>(H a).isSome
def z5Z(h:Heap)(H:Hp):Heap:=W.hideAll h (trk h H)
theorem z47(h:Heap)(H:Hp):(z5Z h H).objs.size=h.objs.size:=W.hideAll_size _ _
theorem z5Y{h:Heap}{H:Hp}{b:Addr}{o:Obj}(e:h.get? b=some o)(n:H b=none):(z5Z h H).get? b=some o:= W.hideAll_get _ e λhm=>by
  have q:(H b).isSome=true:=(List.mem_filter.mp hm).2;rw[n]at q;simp at q
theorem z8J{h:Heap}{H:Hp}{b:Addr}{o:Obj}(e:(z5Z h H).get? b=some o):h.get? b=some o/\H b=none:=by
 have e':h.get? b=some o:=W.of_hideAll (trk h H) e;refine⟨e',?_⟩;cases q:H b with
 | none=>rfl | some x=>
  have hm:b∈trk h H:=List.mem_filter.mpr ⟨List.mem_range.mpr (_h e'),by simp[q]⟩;have z:(z5Z h H).get? b=none:=W.hideAll_none (trk h H) hm;rw[z]at e;cases e
def z8k(g h:Heap)(L:Addr):List (Addr×Obj):=(List.range h.objs.size).filterMap λa=>if a=L\/(g.get? a).isSome=true then none else (h.get? a).map λo=>(a,o)
def jr(g h:Heap)(L d:Addr):List (Addr×Obj):=(z8k g h L).filter λp=>decide (p.1≠d)
structure Mod(K:W.Frag)(mg:Str->Option Value)(base:Heap):Prop where
 kin:K.In base
 glob:base.Ns mainGlobals mg
 blt:∃mb,base.Ns builtinsNs mb/\∀x:Str,x≠"__name__"->mb x=bootBuiltins x
 nolimit:base.NoLimit
structure Cx where
 prog:Program
 w:World
 K:W.Frag
 mg:Str->Option Value
 base:Heap
 A:Around
 N:List Str
 s₀:Shared
 H₀:Hp
 env:Env
 outer:List Env
 stack:List Env
 ex:List Addr
 fn:Str->Bool
 calm:Bool
 pn:List (Addr×Obj)
 xe:Value->Shared->Prop
def frs(l:List Env):List Addr:=l.filterMap (·.frame)
abbrev Cx.fs(X:Cx):List Addr:=frs X.outer
def Vis(sc:Scope)(x:Str):Prop:=sc.names.lookup x=some .local\/sc.names.lookup x=some .cell\/sc.names.lookup x=some .free
def Loc(sc:Scope)(x:Str):Prop:=sc.names.lookup x=some .local\/sc.names.lookup x=some .cell
def zd0(env:Env)(h:Heap)(m:Str->Option Value)(x:Str)(u:Value):Prop:= (env.kindOf x=some .local/\m x=some u)\/((env.kindOf x=some .cell\/env.kindOf x=some .free)/\∃c,env.cells.lookup x=some c/\h.IsCell c (some u))
structure Cx.Ok(X:Cx):Prop where
 mod:Mod X.K X.mg X.base
 kind:X.env.scope.kind=.function
 glob:X.env.globals=mainGlobals
 blt:X.env.builtins=builtinsNs
 above:X.s₀.heap.objs.size<=X.env.locals
 inj:∀x y c,X.env.cells.lookup x=some c->X.env.cells.lookup y=some c->x=y
 has:∀x,(X.env.kindOf x=some .cell\/X.env.kindOf x=some .free)->∃c,X.env.cells.lookup x=some c
 cab:∀x c,X.fn x=true->X.env.cells.lookup x=some c->X.s₀.heap.objs.size<=c
 hd:X.calm=true->X.A.handled=none
 frames:X.A.frames=some X.stack
 stk:X.stack=X.outer\/(X.stack=X.env::X.outer/\X.env.frame=some X.env.locals)
 exf:∀b∈X.ex,b≠X.env.locals/\∀x c,X.env.cells.lookup x=some c->c≠b
 bs:∀b o,X.base.get? b=some o->X.s₀.heap.get? b=some o/\X.H₀ b=none
 bsz:X.base.objs.size<=X.s₀.heap.objs.size
 noex:∀b o,X.base.get? b=some o->b∉X.ex
 exfs:∀b∈X.ex,b∉X.fs
 funs:X.s₀.heap.FunFrames X.base X.outer
 frf:∀b∈X.fs,X.H₀ b=none
structure Inv(X:Cx)(pins:List (Addr×Obj))(O:List (Option V))(H:Hp)(s:Shared):Prop where
 ok:X.Ok
 os:s.os=X.s₀.os
 bare:AllBare s.gens
 base:Un X.fs X.ex X.H₀ H X.s₀.heap s.heap
 loc:∃m,s.heap.Ns X.env.locals m/\∀(i:Nat)(x:Str)(v:V),X.N[i]? = some x->O[i]? = some (some v)->Vis X.env.scope x->∃u,yP v u/\zd0 X.env s.heap m x u
 cell:∀x c,X.env.cells.lookup x=some c->∃v,s.heap.IsCell c v
 free:H X.env.locals=none
 freeC:∀x c,X.env.cells.lookup x=some c->H c=none
 pin:∀p∈X.pn++pins,s.heap.get? p.1=some p.2/\H p.1=none/\p.1≠X.env.locals/\p.1∉X.fs/\∀v,p.2.data≠.cell v
 hok:HOk X.prog X.w H s.heap
 len:O.length=X.N.length
section
variable {X:Cx}{pins:List (Addr×Obj)}{O:List (Option V)}{H H':Hp}{s:Shared}{h':Heap}
theorem Cx.Ok.nofr(ok:X.Ok){b:Addr}{o:Obj}(e:X.base.get? b=some o):b∉X.fs:=λhb=>by
 have:=(ok.funs.mem hb).1;rw[e]at this;cases this
theorem Inv.bs(I:Inv X pins O H s):∀b o,X.base.get? b=some o->s.heap.get? b=some o/\H b=none:=λb o e=> ⟨I.base.keep b o (I.ok.bs b o e).1 (I.ok.bs b o e).2 (I.ok.nofr e) (I.ok.noex b o e),I.base.free b o (I.ok.bs b o e).1 (I.ok.bs b o e).2 (I.ok.noex b o e)⟩
theorem Inv.bk(I:Inv X pins O H s):∀b o,X.base.get? b=some o->s.heap.get? b=some o:=λb o e=>(I.bs b o e).1
theorem Inv.mod(I:Inv X pins O H s):Mod X.K X.mg X.base:=I.ok.mod
theorem Inv.kIn(I:Inv X pins O H s):X.K.In s.heap:=I.ok.mod.kin.keeps I.bk
theorem Inv.fr(I:Inv X pins O H s):∃m,Fr X.base X.env.locals s.heap m:= let ⟨m,hn,_⟩:=I.loc;⟨m,hn,I.bk,_v I.ok.bsz I.ok.above⟩
theorem Inv.lt(I:Inv X pins O H s):X.env.locals<s.heap.objs.size:=let ⟨_,hn,_⟩:=I.loc;hn.lt
theorem Inv.sz(I:Inv X pins O H s):X.s₀.heap.objs.size<=s.heap.objs.size:=_v I.ok.above (_bI I.lt)
theorem Inv.nofs(I:Inv X pins O H s){a:Addr}(h:s.heap.objs.size<=a):a∉X.fs:=λhb=>by
 obtain⟨_,o,ho,_⟩:=I.ok.funs.mem hb;exact absurd (_e (_h ho) (_v I.sz h)) (_V _)
theorem Inv.cne(I:Inv X pins O H s):∀x c,X.env.cells.lookup x=some c->c≠X.env.locals:=λx c e z=>by
 obtain⟨v,o,ho,hd⟩:=I.cell x c e;obtain⟨m,⟨o',es,ep,ho',hd',_⟩,_⟩:=I.loc;rw[z,ho']at ho;cases ho;rw[hd']at hd;cases hd
theorem Inv.funs(I:Inv X pins O H s):s.heap.FunFrames X.base X.outer:=by
 have all:∀(l:List Env),(∀b∈frs l,b∈X.fs)->X.s₀.heap.FunFrames X.base l->s.heap.FunFrames X.base l:=by
  intro l;induction l with
  | nil=>intro _ _;trivial | cons env r ih=>
   intro hs hl;obtain⟨hk,⟨L,o,hf,hn,ho,hd⟩,hr⟩:=hl;have hL:L∈X.fs:=hs L (by unfold frs;rw[_aG,hf];exact _B);obtain⟨sl,e⟩:=I.base.slot L o ho (I.ok.frf L hL) hL λz=>I.ok.exfs L z hL;exact⟨hk,⟨L,_,hf,hn,e,hd⟩,ih (λb hb=>hs b (by unfold frs;rw[_aG,hf];exact _n _ hb)) hr⟩
 exact all X.outer (λ_ hb=>hb) I.ok.funs
theorem Inv.stack(I:Inv X pins O H s):s.heap.FunFrames X.base X.stack:=by
 rcases I.ok.stk with e | ⟨e,hf⟩;·rw[e];exact I.funs
 ·rw[e];obtain⟨m,hn,_⟩:=I.loc;refine .cons (by rw[I.ok.kind];decide) hf hn ?_ I.funs;exact Heap.get?_none_of_le (_v I.ok.bsz I.ok.above)
theorem Inv.stkSub(I:Inv X pins O H s):∀b∈frs X.stack,b∈X.env.locals::X.fs:=λb hb=>by
 rcases I.ok.stk with e | ⟨e,hf⟩;·rw[e]at hb;exact _n _ hb
 ·rw[e]at hb;unfold frs at hb;rw[_aG,hf]at hb;exact hb
theorem Inv.stkFree(I:Inv X pins O H s):∀b∈frs X.stack,H b=none:=λb hb=>by
 rcases _l.mp (I.stkSub b hb) with e | hb;·rw[e];exact I.free
 ·obtain⟨_,o,ho,_⟩:=I.ok.funs.mem hb;exact I.base.free b o ho (I.ok.frf b hb) λz=>I.ok.exfs b z hb
theorem Inv.step{g':Array GenState}{t':Nat}{d':Drawn}{ch:List Addr}(I:Inv X pins O H s) (hch:∀b∈ch,(b∈X.ex\/X.s₀.heap.objs.size<=b)/\b≠X.env.locals/\(∀x c,X.env.cells.lookup x=some c->c≠b)/\∀p∈X.pn++pins,p.1≠b) (keep:∀b o,b≠X.env.locals->b∉X.fs->b∉ch->s.heap.get? b=some o->H b=none->h'.get? b=some o) (slot:∀b o,b≠X.env.locals->b∈X.fs->b∉ch->s.heap.get? b=some o->H b=none->∃sl,h'.get? b=some {o with slots:=sl})(free:∀b o,b∉ch->s.heap.get? b=some o->H b=none->H' b=none) (there:∀b o,b∉ch->s.heap.get? b=some o->∃o',h'.get? b=some o') (tups:∀b xs,H b=some (.tup xs)->H' b=some (.tup xs))(frzs:∀b o u,H b=some (.frz o u)->H' b=some (.frz o u))(tbls:∀b ps,H b=some (.tbl ps)->∃more,H' b=some (.tbl (ps++more))) (ns:∀m,s.heap.Ns X.env.locals m->h'.Ns X.env.locals m)(hok:HOk X.prog X.w H' h')(hg:AllBare g'): Inv X pins O H' {s with heap:=h',gens:=g',drawn:=d',toks:=t'}:=by
 have neL:∀b o,X.s₀.heap.get? b=some o->b≠X.env.locals:=λb o e=>_u (_e (_h e) I.ok.above);have neC:∀b o,X.s₀.heap.get? b=some o->b∉X.ex->b∉ch:=λb o e hx hb=>by
  rcases (hch b hb).1 with z | z;·exact hx z
  ·exact absurd (_e (_h e) z) (_V _)
 have cellK:∀x c,X.env.cells.lookup x=some c->∀v,s.heap.IsCell c v->h'.IsCell c v:=λx c e v ⟨o,ho,hd⟩=>by
  have nch:c∉ch:=λz=>(hch c z).2.2.1 x c e rfl;by_cases hc:c∈X.fs
  ·obtain⟨sl,q⟩:=slot c o (I.cne x c e) hc nch ho (I.freeC x c e);exact⟨_,q,hd⟩
  ·exact⟨o,keep c o (I.cne x c e) hc nch ho (I.freeC x c e),hd⟩
 refine⟨I.ok,I.os,hg,⟨λb o e n hb hx=>?_,λb o e n hb hx=>?_,λb o e n hx=>?_,λb o e hx=>?_,λb xs e=>tups b xs (I.base.tups b xs e),λb o xs e=>frzs b o xs (I.base.frzs b o xs e),λb ps e=>?_⟩,?_,λx c e=>?_,?_,λx c e=>?_,λp hp=>?_,hok,I.len⟩;·exact keep b o (neL b o e) hb (neC b o e hx) (I.base.keep b o e n hb hx) (I.base.free b o e n hx)
 ·obtain⟨sl,e1⟩:=I.base.slot b o e n hb hx;obtain⟨sl',e2⟩:=slot b _ (neL b o e) hb (neC b o e hx) e1 (I.base.free b o e n hx);exact⟨sl',e2⟩
 ·obtain⟨o',e1⟩:=I.base.there b o e hx;exact free b o' (neC b o e hx) e1 (I.base.free b o e n hx)
 ·obtain⟨o',e1⟩:=I.base.there b o e hx;exact there b o' (neC b o e hx) e1
 ·obtain⟨m1,e1⟩:=I.base.tbls b ps e;obtain⟨m2,e2⟩:=tbls b _ e1;exact⟨m1++m2,by rw[e2,Array.append_assoc]⟩
 ·obtain⟨m,hn,hl⟩:=I.loc;refine⟨m,ns m hn,λi x v e1 e2 e3=>?_⟩;obtain⟨u,r,l⟩:=hl i x v e1 e2 e3;refine⟨u,r,?_⟩;rcases l with l | ⟨k,c,e,z⟩;·exact .inl l
  ·exact .inr ⟨k,c,e,cellK x c e _ z⟩
 ·obtain⟨v,z⟩:=I.cell x c e;exact⟨v,cellK x c e v z⟩
 ·obtain⟨m,⟨o,_,_,ho,_⟩,_⟩:=I.loc;exact free _ o (λz=>(hch _ z).2.1 rfl) ho I.free
 ·obtain⟨v,o,ho,hd⟩:=I.cell x c e;exact free c o (λz=>(hch c z).2.2.1 x c e rfl) ho (I.freeC x c e)
 ·obtain⟨e,n,ne,nf,d⟩:=I.pin p hp;have nch:p.1∉ch:=λz=>(hch p.1 z).2.2.2 p hp rfl;exact⟨keep p.1 p.2 ne nf nch e n,free p.1 p.2 nch e n,ne,nf,d⟩
theorem Inv.un {t':Nat} (I:Inv X pins O H s) (u:Un X.fs [] H H' s.heap h') (hok:HOk X.prog X.w H' h'):Inv X pins O H' {s with heap:=h',toks:=t'}:=by
 obtain⟨m,⟨o,es,ep,ho,r⟩,_⟩:=id I.loc;obtain⟨sl,hL⟩:=u.any ho I.free (by simp);exact I.step (g':=s.gens) (d':=s.drawn) (ch:=[]) (λ_ z=>nomatch z) (λb o _ hb _ e n=>u.keep b o e n hb (by simp)) (λb o _ hb _ e n=>u.slot b o e n hb (by simp)) (λb o _ e n=>u.free b o e n (by simp)) (λb o _ e=>u.there b o e (by simp)) u.tups u.frzs u.tbls (λm' hm=>by
  obtain⟨o',es',ep',ho',r'⟩:=hm;rw[ho]at ho';cases ho';exact⟨_,es',ep',hL,r'⟩) hok I.bare
theorem Inv.call{g':Array GenState}{t':Nat}{d':Drawn}{ch:List Addr}(I:Inv X pins O H s)(u:Un (frs X.stack) ch H H' s.heap h')(hok:HOk X.prog X.w H' h')(hg:AllBare g') (hch:∀b∈ch,(b∈X.ex\/X.s₀.heap.objs.size<=b)/\b≠X.env.locals/\(∀x c,X.env.cells.lookup x=some c->c≠b)/\∀p∈X.pn++pins,p.1≠b): Inv X pins O H' {s with heap:=h',gens:=g',drawn:=d',toks:=t'}:=by
 obtain⟨m,⟨o,es,ep,ho,r⟩,_⟩:=id I.loc;obtain⟨sl,hL⟩:=u.any ho I.free λz=>(hch _ z).2.1 rfl;exact I.step (ch:=ch) hch (λb o hL hb hc e n=>u.keep b o e n (λz=>(_l.mp (I.stkSub b z)).elim hL hb) hc) (λb o _ _ hc e n=>u.any e n hc) (λb o hc e n=>u.free b o e n hc) (λb o hc e=>u.there b o e hc) u.tups u.frzs u.tbls (λm' hm=>by
  obtain⟨o',es',ep',ho',r'⟩:=hm;rw[ho]at ho';cases ho';exact⟨_,es',ep',hL,r'⟩) hok hg
theorem Inv.turned {t':Nat} {it:Addr} (I:Inv X pins O H s) (k:∀b o,b≠it->s.heap.get? b=some o->h'.get? b=some o) (hn:H it=none) (hL:it≠X.env.locals) (h1:it∈X.ex\/X.s₀.heap.objs.size<=it) (h2:∀x c,X.env.cells.lookup x=some c->c≠it) (h3:∀p∈X.pn++pins,p.1≠it):Inv X pins O H {s with heap:=h',toks:=t'}:=by
 have nit:∀b u,H b=some u->b≠it:=λb u e z=>by rw[z,hn]at e;cases e
 refine I.step (g':=s.gens) (d':=s.drawn) (ch:=[it]) (λb hb=>?_) (λb o _ _ hc e _=>k b o (λz=>hc (by simp[z])) e) (λb o _ _ hc e _=>⟨o.slots,k b o (λz=>hc (by simp[z])) e⟩) (λ_ _ _ _ n=>n) (λb o hc e=>⟨o,k b o (λz=>hc (by simp[z])) e⟩) (λ_ _ e=>e) (λ_ _ _ e=>e) (λb ps e=>⟨#[],by rw[e];simp⟩) (λm hm=>?_) (λb u e=>?_) I.bare
 ·have e:b=it:=by simpa using hb
  subst e;exact⟨h1,hL,h2,h3⟩
 ·obtain⟨o,es,ep,ho,r⟩:=hm;exact⟨o,es,ep,k _ o (_bo hL) ho,r⟩
 ·refine (I.hok b u e).stay (λc v hc q=>k c v ?_ q) (λ_ q=>q) λ_ _ q=>q;rcases hc with z | z;·rw[z];exact nit b u e
  ·exact nit c _ z
theorem Inv.tok (I:Inv X pins O H s) (t:Nat):Inv X pins O H {s with toks:=t}:=I.un (h':=s.heap) (t':=t) Un.refl I.hok
theorem Inv.kept{t':Nat}(I:Inv X pins O H s)(k:∀b u,s.heap.get? b=some u->h'.get? b=some u):Inv X pins O H {s with heap:=h',toks:=t'}:=I.un (Un.kept k) (I.hok.kept k)
theorem Inv.laid {a:Addr} {o:HO} {t':Nat} (I:Inv X pins O H s) (k:∀b u,s.heap.get? b=some u->h'.get? b=some u) (hp:s.heap.objs.size<=a) (new:yF X.prog X.w (upd H a o) h' a o): Inv X pins O (upd H a o) {s with heap:=h',toks:=t'}:=I.un (Un.laid k hp (I.hok.fresh hp)) (I.hok.laid k hp new)
theorem Inv.write {x e:Addr} {o:HO} {t':Nat} (I:Inv X pins O H s) (mu:Mut (H x)) (he:e=x\/H e=some (.own x)) (k:∀b u,b≠e->s.heap.get? b=some u->h'.get? b=some u) (heo:∃u,h'.get? e=some u) (new:yF X.prog X.w (upd H x o) h' x o):Inv X pins O (upd H x o) {s with heap:=h',toks:=t'}:=I.un (Un.write mu he k heo) (I.hok.write mu he k heo new)
theorem Inv.weak{O':List (Option V)}(I:Inv X pins O H s)(hl:O'.length=O.length)(w:∀(i:Nat) v,O'[i]? = some (some v)->O[i]? = some (some v)):Inv X pins O' H s:= ⟨I.ok,I.os,I.bare,I.base,let ⟨m,hn,hl'⟩:=I.loc;⟨m,hn,λi x v e1 e2 e3=>hl' i x v e1 (w i v e2) e3⟩,I.cell,I.free,I.freeC,I.pin,I.hok,hl.trans I.len⟩
theorem Inv.pins_of{pins':List (Addr×Obj)}(I:Inv X pins O H s)(h:∀p∈pins',s.heap.get? p.1=some p.2/\H p.1=none/\p.1≠X.env.locals/\p.1∉X.fs/\∀v,p.2.data≠.cell v):Inv X pins' O H s:= ⟨I.ok,I.os,I.bare,I.base,I.loc,I.cell,I.free,I.freeC,λp hp=>(_F.mp hp).elim (λz=>I.pin p (_aq _ z)) (h p),I.hok,I.len⟩
theorem z2Q{N:List Str}(hN:N.Nodup){i j:Nat}{x:Str}(a:N[i]? = some x)(b:N[j]? = some x):i=j:=by
 obtain⟨h1,e1⟩:=_b.mp a;obtain⟨h2,e2⟩:=_b.mp b;exact (_aX hN).mp (e1.trans e2.symm)
theorem z55{M:Model}{A:Around}{E:Value->Shared->Prop}{i:Nat}{x:Str}{v:V}{u:Value}{Q:Unit->Shared->Prop}(I:Inv X pins O H s)(hN:X.N.Nodup)(hi:X.N[i]? = some x)(hx:Loc X.env.scope x)(r:yP v u) (h:∀s',Inv X pins (O.set i (some v)) H s'->(∃a,Heap.SameBut a s.heap s'.heap/\(a=X.env.locals\/X.env.cells.lookup x=some a))->Q () s')(hf:X.fn x=true\/X.env.scope.names.lookup x=some .local:=by first | exact .inl rfl | exact .inr rfl | assumption):wpAny M A (storeName X.env x u) Q E s:=by
 obtain⟨m,hn,hl⟩:=id I.loc;have hcls:(X.env.scope.kind==.class||(X.env.scope.kind==.module&&X.env.locals != X.env.globals))=false:=by rw[I.ok.kind];rfl
 have hiO:i<O.length:=by rw[I.len];exact (_b.mp hi).1
 have cne:=I.cne;have tracked:∀{a:Addr}{h':Heap},(∃o,s.heap.get? a=some o/\H a=none)->Heap.SameBut a s.heap h'->HOk X.prog X.w H h':=λ{a h'} ha hs b ob e=>by
  obtain⟨_,_,hfree⟩:=ha;refine (I.hok b ob e).stay (λc w' hc q=>(hs.2 c ?_).trans q) (λ_ q=>q) λ_ _ q=>q;rintro rfl;rcases hc with rfl | hc;·rw[hfree]at e;cases e
  ·rw[hfree]at hc;cases hc
 rcases hx with hk | hk
 ·refine wpAny_storeName_local hk hn (λh' hn' hs=>?_) hcls;obtain⟨oL,_,_,hoL,_⟩:=id hn;refine h _ ⟨I.ok,I.os,I.bare,⟨λb o e n hb hx=>?_,λb o e n hb hx=>?_,I.base.free,λb o e hx=>?_,I.base.tups,I.base.frzs,I.base.tbls⟩,⟨_,hn',λj y v' e1 e2 e3=>?_⟩,λy c e=>?_,I.free,I.freeC,λp hp=>?_,tracked ⟨oL,hoL,I.free⟩ hs,by simpa using I.len⟩ ⟨_,hs,.inl rfl⟩;·exact (hs.2 b (_u (_e (_h e) I.ok.above))).trans (I.base.keep b o e n hb hx)
  ·obtain⟨sl,e1⟩:=I.base.slot b o e n hb hx;exact⟨sl,(hs.2 b (_u (_e (_h e) I.ok.above))).trans e1⟩
  ·obtain⟨o',e1⟩:=I.base.there b o e hx;exact⟨o',(hs.2 b (_u (_e (_h e) I.ok.above))).trans e1⟩
  ·by_cases hj:j=i
   ·subst hj;rw[hi]at e1;cases e1;rw[_w hiO]at e2;cases e2;exact⟨u,r,.inl ⟨hk,by simp⟩⟩
   ·rw[_y (_bo hj)]at e2;obtain⟨u',r',q⟩:=hl j y v' e1 e2 e3;refine⟨u',r',?_⟩;rcases q with⟨k,e⟩ | ⟨k,c,e,z⟩
    ·refine .inl ⟨k,?_⟩;have:y≠x:=λe=>hj (z2Q hN e1 (e ▸ hi));simp[this,e]
    ·exact .inr ⟨k,c,e,z.sameBut hs (cne y c e)⟩
  ·obtain⟨w',z⟩:=I.cell y c e;exact⟨w',z.sameBut hs (cne y c e)⟩
  ·obtain⟨e,n,ne,nf,d⟩:=I.pin p hp;exact⟨(hs.2 p.1 ne).trans e,n,ne,nf,d⟩
 ·have hfn:X.fn x=true:=by
   rcases hf with z | z;·exact z
   ·rw[z]at hk;cases hk
  obtain⟨c,hc⟩:=I.ok.has x (.inl hk);obtain⟨w',z⟩:=I.cell x c hc;refine wpAny_storeName_cell I.ok.kind hk hc z (λh' hc' hs=>?_);obtain⟨oc,hoc,hocd⟩:=id z;refine h {s with heap:=h'} ⟨I.ok,I.os,I.bare,⟨λb o e n hb hx=>?_,λb o e n hb hx=>?_,I.base.free,λb o e hx=>?_,I.base.tups,I.base.frzs,I.base.tbls⟩,⟨m,hn.sameBut hs (_bo (cne x c hc)),λj y v' e1 e2 e3=>?_⟩,λy c' e=>?_,I.free,I.freeC,λp hp=>?_,tracked ⟨oc,hoc,I.freeC x c hc⟩ hs,by simpa using I.len⟩ ⟨c,hs,.inr hc⟩;·exact (hs.2 b (_u (_e (_h e) (I.ok.cab x c hfn hc)))).trans (I.base.keep b o e n hb hx)
  ·obtain⟨sl,e1⟩:=I.base.slot b o e n hb hx;exact⟨sl,(hs.2 b (_u (_e (_h e) (I.ok.cab x c hfn hc)))).trans e1⟩
  ·obtain⟨o',e1⟩:=I.base.there b o e hx;exact⟨o',(hs.2 b (_u (_e (_h e) (I.ok.cab x c hfn hc)))).trans e1⟩
  ·by_cases hj:j=i
   ·subst hj;rw[hi]at e1;cases e1;rw[_w hiO]at e2;cases e2;exact⟨u,r,.inr ⟨.inl hk,c,hc,hc'⟩⟩
   ·rw[_y (_bo hj)]at e2;obtain⟨u',r',q⟩:=hl j y v' e1 e2 e3;refine⟨u',r',?_⟩;rcases q with q | ⟨k,c',e,z'⟩;·exact .inl q
    ·refine .inr ⟨k,c',e,z'.sameBut hs ?_⟩;rintro rfl;exact hj (z2Q hN e1 (I.ok.inj _ _ _ e hc ▸ hi))
  ·by_cases hcc:c'=c;·subst hcc;exact⟨_,hc'⟩
   ·obtain⟨w2,z2⟩:=I.cell y c' e;exact⟨w2,z2.sameBut hs hcc⟩
  ·obtain⟨e,n,ne,nf,d⟩:=I.pin p hp;refine⟨(hs.2 p.1 ?_).trans e,n,ne,nf,d⟩;intro q;rw[q,hoc]at e;have q':oc=p.2:=_s e;exact d w' (by rw[<- q'];exact hocd)
theorem z0w{M:Model}{A:Around}{E:Value->Shared->Prop}{i:Nat}{x:Str}{v:V}{u:Value}{Q:Unit->Shared->Prop}(I:Inv X pins O H s)(hN:X.N.Nodup)(hi:X.N[i]? = some x)(hx:Loc X.env.scope x)(r:yP v u) (h:∀s',Inv X pins (O.set i (some v)) H s'->Q () s')(hf:X.fn x=true\/X.env.scope.names.lookup x=some .local:=by first | exact .inl rfl | exact .inr rfl | assumption):wpAny M A (storeName X.env x u) Q E s:= z55 I hN hi hx r (λs' I' _=>h s' I') hf
theorem Inv.call' {s':Shared} {ch:List Addr} (I:Inv X pins O H s) (ho:s'.os=s.os) (u:Un (frs X.stack) ch H H' s.heap s'.heap) (hok:HOk X.prog X.w H' s'.heap) (hg:AllBare s'.gens) (hch:∀b∈ch,(b∈X.ex\/X.s₀.heap.objs.size<=b)/\b≠X.env.locals/\(∀x c,X.env.cells.lookup x=some c->c≠b)/\∀p∈X.pn++pins,p.1≠b):Inv X pins O H' s':=by
 obtain⟨h',g',d',t',o'⟩:=s';have e:o'=s.os:=ho;subst e;exact I.call (g':=g') (t':=t') (d':=d') u hok hg hch
end
abbrev XK:=Value->Option Addr->Hp->Prop
abbrev St:=List (Option V)
abbrev VK:=V->Hp->Prop
abbrev TE:=St->Hp->VK->Prop
abbrev TT:=St->Hp->(Bool->Hp->Prop)->Prop
abbrev TA:=St->Hp->(List V->Hp->Prop)->Prop
structure z82 where
 nx:St->Hp->Prop
 rt:VK
 bk:St->Hp->Prop:=λ_ _=>False
 ct:St->Hp->Prop:=λ_ _=>False
abbrev TS:=z82->St->Hp->Prop
def EP(X:Cx)(pins:List (Addr×Obj))(O:St)(Q:VK)(u:Value)(s':Shared):Prop:=∃v H',Inv X pins O H' s'/\yP v u/\Q v H'
def TP(X:Cx)(pins:List (Addr×Obj))(O:St)(Q:Bool->Hp->Prop)(b:Bool)(s':Shared):Prop:=∃H',Inv X pins O H' s'/\Q b H'
def AP(X:Cx)(pins:List (Addr×Obj))(O:St)(Q:List V->Hp->Prop)(us:List Value)(s':Shared):Prop:=∃vs H',Inv X pins O H' s'/\yt vs us/\Q vs H'
def SP(X:Cx)(pins:List (Addr×Obj))(D:z82)(f:Flow)(s':Shared):Prop:= match f with
 | .next=>∃O' H',Inv X pins O' H' s'/\D.nx O' H' | .brk=>∃O' H',Inv X pins O' H' s'/\D.bk O' H' | .cont=>∃O' H',Inv X pins O' H' s'/\D.ct O' H' | .ret u=>∃v O' H',Inv X pins O' H' s'/\yP v u/\D.rt v H'
def PE(X:Cx)(e:Expr)(t:TE):Prop:= ∀(pins:List (Addr×Obj))(s:Shared)(O:St)(H:Hp)(Q:VK),Inv X pins O H s->t O H Q->wpAny (model X.prog X.w) X.A (eval e X.env) (EP X pins O Q) X.xe s
def PT(X:Cx)(e:Expr)(t:TT):Prop:= ∀(pins:List (Addr×Obj))(s:Shared)(O:St)(H:Hp)(Q:Bool->Hp->Prop),Inv X pins O H s->t O H Q->wpAny (model X.prog X.w) X.A (isTrue e X.env (eval e X.env)) (TP X pins O Q) X.xe s
def PW(X:Cx)(e:Expr)(t:TT):Prop:= ∀(whole:Sem Value)(pins:List (Addr×Obj))(s:Shared)(O:St)(H:Hp)(Q:Bool->Hp->Prop),Inv X pins O H s->t O H Q->wpAny (model X.prog X.w) X.A (isTrue e X.env whole) (TP X pins O Q) X.xe s
theorem PW.pt{X:Cx}{e:Expr}{t:TT}(h:PW X e t):PT X e t:=h _
def PA(X:Cx)(es:List Expr)(t:TA):Prop:= ∀(pos:Pos)(pins:List (Addr×Obj))(s:Shared)(O:St)(H:Hp)(Q:List V->Hp->Prop),Inv X pins O H s->t O H Q->wpAny (model X.prog X.w) X.A (spliced (backTo pos (starEach es X.env))) (AP X pins O Q) X.xe s
def PS(X:Cx)(st:Stmt)(t:TS):Prop:= ∀(pins:List (Addr×Obj))(s:Shared)(O:St)(H:Hp)(D:z82),Inv X pins O H s->t D O H->wpAny (model X.prog X.w) X.A (exec st X.env) (SP X pins D) X.xe s
def PSs(X:Cx)(st:List Stmt)(t:TS):Prop:= ∀(pins:List (Addr×Obj))(s:Shared)(O:St)(H:Hp)(D:z82),Inv X pins O H s->t D O H->wpAny (model X.prog X.w) X.A (execs st X.env) (SP X pins D) X.xe s
theorem thn{α:Type}{t:Sem α}{Q Q':α->Shared->Prop}{M:Model}{A:Around}{E:Value->Shared->Prop}{s:Shared}(h:wpAny M A t Q E s)(hQ:∀a s,Q a s->Q' a s):wpAny M A t Q' E s:=_J h hQ λ_ _ x=>x
section
variable {X:Cx}
theorem bin{a b:Expr}{ta tb:TE}(ha:PE X a ta)(hb:PE X b tb){pins:List (Addr×Obj)}{s:Shared}{O:St}{H:Hp}{R:V->V->Hp->Prop}(I:Inv X pins O H s)(h:ta O H λx H1=>tb O H1 λy H2=>R x y H2) {α:Type}{Q:α->Shared->Prop}{f:Value->Value->Sem α} (hf:∀v u s2 x y H2,Inv X pins O H2 s2->yP x v->yP y u->R x y H2->wpAny (model X.prog X.w) X.A (f v u) Q X.xe s2): wpAny (model X.prog X.w) X.A (eval a X.env) (λv s₁=>wpAny (model X.prog X.w) X.A (eval b X.env) (λu s₂=>wpAny (model X.prog X.w) X.A (f v u) Q X.xe s₂) X.xe s₁) X.xe s:=by
 refine thn (ha pins s O H _ I h) λv s1 ⟨x,H1,I1,r1,q1⟩=>?_;refine thn (hb pins s1 O H1 _ I1 q1) λu s2 ⟨y,H2,I2,r2,q2⟩=>?_;exact hf v u s2 x y H2 I2 r1 r2 q2
def zdo(i:Nat):TE:=λO H Q=>∃v,O[i]? = some (some v)/\Q v H
def tC(v:V):TE:=λ_ H Q=>Q v H
theorem z9J{i:Nat}{x:Str}{pos:Pos}(hN:X.N[i]? = some x)(hv:Vis X.env.scope x)(hd:(x==("__debug__":Str))=false:=by decide)(hcd:(x==("__classdict__":Str))=false:=by decide):PE X (.Name x pos) (zdo i):=by
 intro pins s O H Q I h;obtain⟨v,e,h⟩:=h;obtain⟨m,hn,hl⟩:=I.loc;obtain⟨u,r,l⟩:=hl i x v hN e hv;have fin:EP X pins O Q u s:=⟨v,H,I,r,h⟩;rcases l with⟨hk,hm⟩ | ⟨hk,c,hc,hcell⟩;·exact wpAny_Name (wpAny_loadName_local I.ok.kind hk hn hm fin) hd
 ·rcases hk with hk | hk;·exact wpAny_Name (wpAny_loadName_cell I.ok.kind hk hc hcell fin) hd
  ·exact wpAny_Name (wpAny_loadName_free I.ok.kind hk hc hcell fin hcd) hd
theorem zaL{i j pos}:PE X (.Constant (.int i) j pos) (tC (.int i)):=λ_ _ _ H _ I h=>wpAny_Constant_int ⟨.int i,H,I.tok _,⟨_,rfl⟩,h⟩
theorem zbO{b j pos}:PE X (.Constant (.bool b) j pos) (tC (.bl b)):=λ_ _ _ H _ I h=>Constant_bool ⟨.bl b,H,I,rfl,h⟩
theorem zaa{j pos}:PE X (.Constant .none j pos) (tC .non):=λ_ _ _ H _ I h=>Constant_none ⟨.non,H,I,rfl,h⟩
theorem z76{x j pos}:PE X (.Constant (.str x) j pos) (tC (.str x)):=λ_ _ _ H _ I h=>Calls.Constant_str ⟨.str x,H,I.tok _,⟨_,rfl⟩,h⟩
def Gl(X:Cx)(x:Str):Prop:=X.env.kindOf x=some .globalImplicit
theorem ke{E:Value->Shared->Prop}{pins:List (Addr×Obj)}{s:Shared}{O:St}{H:Hp}{x:Str}{u:Value}{pos:Pos}{Q:Value->Shared->Prop}(I:Inv X pins O H s)(hg:Gl X x)(hm:X.mg x=some u)(h:Q u s) (hd:(x==("__debug__":Str))=false:=by decide):wpAny (model X.prog X.w) X.A (eval (.Name x pos) X.env) Q E s:= Calls.Name_function_global I.ok.kind hg (Calls.loadGlobal_global (by rw[I.ok.glob];exact I.mod.glob.keeps I.bk) hm h) hd
theorem z1P{E:Value->Shared->Prop}{pins:List (Addr×Obj)}{s:Shared}{O:St}{H:Hp}{x:Str}{u:Value}{pos:Pos}{Q:Value->Shared->Prop}(I:Inv X pins O H s)(hg:Gl X x)(hm:X.mg x=none)(hv:bootBuiltins x=some u)(h:Q u s) (hn:x≠"__name__":=by decide)(hd:(x==("__debug__":Str))=false:=by decide):wpAny (model X.prog X.w) X.A (eval (.Name x pos) X.env) Q E s:=by
 obtain⟨mb,h1,h2⟩:=I.mod.blt;exact Calls.Name_function_global I.ok.kind hg (Calls.loadGlobal_builtin (by rw[I.ok.glob];exact I.mod.glob.keeps I.bk) hm (by rw[I.ok.blt];exact h1.keeps I.bk) ((h2 x hn).trans hv) h) hd
theorem z0u{x:Str}{v:V}{u:Value}{pos:Pos}(hg:Gl X x)(hm:X.mg x=some u)(r:yP v u)(hd:(x==("__debug__":Str))=false:=by decide):PE X (.Name x pos) (tC v):= λ_ _ _ H _ I h=>ke I hg hm ⟨v,H,I,r,h⟩ hd
theorem z0h{x:Str}{v:V}{u:Value}{pos:Pos}(hg:Gl X x)(hm:X.mg x=none)(hv:bootBuiltins x=some u)(r:yP v u)(hn:x≠"__name__":=by decide)(hd:(x==("__debug__":Str))=false:=by decide):PE X (.Name x pos) (tC v):= λ_ _ _ H _ I h=>z1P I hg hm hv ⟨v,H,I,r,h⟩ hn hd
variable {a b:Expr}{ta tb:TE}{pos:Pos}
def PC(X:Cx)(op:CmpOp)(a b:Expr)(t:TE):Prop:= ∀(pins:List (Addr×Obj))(s:Shared)(O:St)(H:Hp)(Q:VK),Inv X pins O H s->t O H Q-> wpAny (model X.prog X.w) X.A (eval a X.env) (λv s₁=>wpAny (model X.prog X.w) X.A (eval b X.env) (λu s₂=>wpAny (model X.prog X.w) X.A (compareOp op v u) (EP X pins O Q) X.xe s₂) X.xe s₁) X.xe s
def tB(t:TE):TT:=λO H Q=>t O H λx H1=>∃c,x=.bl c/\Q c H1
theorem zcy{op:CmpOp}{t:TE}(h:PC X op a b t)(h1:behindInMarks op b=false:=by first | exact nobehind _ (by decide) (by decide) | rfl):PT X (.Compare a [op] [b] pos) (tB t):=by
 intro pins s O H Q I hw;refine wpAny_isTrue_Compare1 (thn (h pins s O H _ I hw) λv s1 h1=>thn h1 λu s2 h2=>thn h2 λc s3 ⟨x,H1,I1,r1,q1⟩=>?_) h1;obtain⟨d,rfl,q⟩:=q1;cases r1;exact _aa ⟨H1,I1,q⟩
theorem zaj{e:Expr}{t:TE}(h:PE X e t)(he:∀whole,isTrue e X.env whole=(do let v <- whole;standAt e.pos;holding [v] (truthy v)):=by intro _;rfl):PT X e (tB t):=by
 intro pins s O H Q I hw;refine isTrue_plain (thn (h pins s O H _ I hw) λv s1 ⟨x,H1,I1,r1,q1⟩=>?_) (he _);obtain⟨d,rfl,q⟩:=q1;cases r1;exact _aa ⟨H1,I1,q⟩
variable {tA tB':TT}{jr:List Expr}
def zcD(t u:TT):TT:=λO H Q=>t O H λc H1=>if c=true then u O H1 Q else Q false H1
def tOr(t u:TT):TT:=λO H Q=>t O H λc H1=>if c=true then Q true H1 else u O H1 Q
def zdr(t:TT):TT:=λO H Q=>t O H λc H1=>Q (!c) H1
theorem z8d(ha:PT X a tA):PW X (.BoolOp .And [a] pos) tA:=by
 intro wh pins s O H Q I h;refine isTrue_and (thn (ha pins s O H Q I h) λc s1 e=>?_);cases c with
 | true=>exact isTrue_and_nil e | false=>exact e
theorem z9T(ha:PT X a tA):PW X (.BoolOp .Or [a] pos) tA:=by
 intro wh pins s O H Q I h;refine isTrue_or (thn (ha pins s O H Q I h) λc s1 e=>?_);cases c with
 | false=>exact isTrue_or_nil e | true=>exact e
theorem z9Q(ha:PT X a tA)(hb:PW X (.BoolOp .And (b::jr) pos) tB'):PW X (.BoolOp .And (a::b::jr) pos) (zcD tA tB'):=by
 intro wh pins s O H Q I h;refine isTrue_and (thn (ha pins s O H _ I h) λc s1 ⟨H1,I1,q1⟩=>?_);cases c with
 | true=>exact hb wh pins s1 O H1 Q I1 q1 | false=>exact⟨H1,I1,q1⟩
theorem zbP(ha:PT X a tA)(hb:PW X (.BoolOp .Or (b::jr) pos) tB'):PW X (.BoolOp .Or (a::b::jr) pos) (tOr tA tB'):=by
 intro wh pins s O H Q I h;refine isTrue_or (thn (ha pins s O H _ I h) λc s1 ⟨H1,I1,q1⟩=>?_);cases c with
 | true=>exact⟨H1,I1,q1⟩ | false=>exact hb wh pins s1 O H1 Q I1 q1
theorem z9j(ha:PT X a tA):PT X (.UnaryOp .Not a pos) (zdr tA):=by
 intro pins s O H Q I h;exact isTrue_not (ha pins s O H (λc H1=>Q (!c) H1) I h)
def zbh(ta tb:TE):TE:=λO H Q=>ta O H λx H1=>∃c,x=.bl c/\if c=true then tb O H1 Q else Q (.bl false) H1
def zdd(ta tb:TE):TE:=λO H Q=>ta O H λx H1=>∃c,x=.bl c/\if c=true then Q (.bl true) H1 else tb O H1 Q
def zbH(ta:TE):TE:=λO H Q=>ta O H λx H1=>∃c,x=.bl c/\Q (.bl (!c)) H1
theorem z9A{op}{t:TE}(h:PE X a t):PE X (.BoolOp op [a] pos) t:=λpins s O H Q I hw=>BoolOp_one (h pins s O H Q I hw)
theorem z92(ha:PE X a ta)(hb:PE X (.BoolOp .And (b::jr) pos) tb):PE X (.BoolOp .And (a::b::jr) pos) (zbh ta tb):=by
 intro pins s O H Q I h;refine BoolOp_and (thn (ha pins s O H _ I h) λv s1 ⟨x,H1,I1,r1,q1⟩=>?_);obtain⟨c,rfl,q1⟩:=q1;cases r1;refine _aa ?_;cases c with
 | true=>exact hb pins s1 O H1 Q I1 q1 | false=>exact⟨.bl false,H1,I1,rfl,q1⟩
theorem zbQ(ha:PE X a ta)(hb:PE X (.BoolOp .Or (b::jr) pos) tb):PE X (.BoolOp .Or (a::b::jr) pos) (zdd ta tb):=by
 intro pins s O H Q I h;refine BoolOp_or (thn (ha pins s O H _ I h) λv s1 ⟨x,H1,I1,r1,q1⟩=>?_);obtain⟨c,rfl,q1⟩:=q1;cases r1;refine _aa ?_;cases c with
 | false=>exact hb pins s1 O H1 Q I1 q1 | true=>exact⟨.bl true,H1,I1,rfl,q1⟩
theorem zaq(ha:PE X a ta):PE X (.UnaryOp .Not a pos) (zbH ta):=by
 intro pins s O H Q I h;refine UnaryOp_ (thn (ha pins s O H _ I h) λv s1 ⟨x,H1,I1,r1,q1⟩=>?_);obtain⟨c,rfl,q1⟩:=q1;cases r1;exact not_of (_aa ⟨.bl (!c),H1,I1,rfl,q1⟩)
def tIf(t:TT)(ta tb:TE):TE:=λO H Q=>t O H λc H1=>if c=true then ta O H1 Q else tb O H1 Q
theorem z5X{c:Expr}(hc:PT X c tA)(ha:PE X a ta)(hb:PE X b tb):PE X (.IfExp c a b pos) (tIf tA ta tb):=by
 intro pins s O H Q I h;refine wpAny_IfExp (thn (hc pins s O H _ I h) λd s1 ⟨H1,I1,q1⟩=>?_);cases d with
 | true=>exact ha pins s1 O H1 Q I1 q1 | false=>exact hb pins s1 O H1 Q I1 q1
end
def SqL(K:W.Frag)(H:Hp)(a:Addr)(xs:List V):Prop:= Rd H a (.lst xs)\/ ∃(o:Obj)(its:Array Value)(n:Nat),K.lookup a=some o/\o.cls=.type "list"/\o.dict=none/\o.data=.seq its n/\its.size<=sizeLine/\yt xs its.toList
def SqT(K:W.Frag)(H:Hp)(a:Addr)(xs:List V):Prop:= Rd H a (.tup xs)\/ ∃(o:Obj)(its:Array Value)(n:Nat),K.lookup a=some o/\o.cls=.type "tuple"/\o.data=.seq its n/\its.size<=sizeLine/\yt xs its.toList
def zdw:Value->Option V
 | .none=>some .non | .bool b=>some (.bl b) | .int i _=>some (.int i) | .str x _=>some (.str x) | .bytes b _=>some (.byt b) | .float b _=>some (.flt b) | .ref a=>some (.ref a) | .type n=>some (.ty n) | _=>none
theorem yP.abs{x:V}{u:Value}(r:yP x u):zdw u=some x:=by cases x with
 | non=>cases r;rfl | bl _=>cases r;rfl | int _=>obtain⟨t,rfl⟩:=r;rfl | str _=>obtain⟨t,rfl⟩:=r;rfl | byt _=>obtain⟨t,rfl⟩:=r;rfl | flt _=>obtain⟨t,rfl⟩:=r;rfl | ref _=>cases r;rfl | ty _=>cases r;rfl
theorem yP.inj{x y:V}{u:Value}(r:yP x u)(q:yP y u):x=y:=_s (r.abs.symm.trans q.abs)
theorem yt.inj:∀{xs ys:List V}{us:List Value},yt xs us->yt ys us->xs=ys
 | _,_,_,.nil,.nil=>rfl | _,_,_,.cons r t,.cons r' t'=>by rw[r.inj r',yt.inj t t']
section
variable {X:Cx}{pins:List (Addr×Obj)}{O:St}{H:Hp}{s:Shared}{a:Addr}{xs ys:List V}
theorem Inv.list(I:Inv X pins O H s)(h:SqL X.K H a xs):∃its:List Value,yt xs its/\PlainL s.heap a its.toArray/\xs.length<=sizeLine:=by
 rcases h with h | ⟨o,its,n,hk,hc,hd,hs,hz,r⟩
 ·obtain⟨z,its,n,r,e⟩:=h.ok I.hok;exact⟨its,r,⟨_,n,e,rfl,rfl,rfl⟩,z⟩
 ·refine⟨its.toList,r,⟨o,n,I.kIn a o hk,hc,hd,by simpa using hs⟩,?_⟩;have e:=r.length;simp only[_ac]at e;omega
theorem Inv.tuple(I:Inv X pins O H s)(h:SqT X.K H a xs):∃its:List Value,yt xs its/\IsTup s.heap a its.toArray/\xs.length<=sizeLine:=by
 rcases h with h | ⟨o,its,n,hk,hc,hs,hz,r⟩
 ·obtain⟨z,its,r,p⟩:=h.ok I.hok;exact⟨its,r,p.tup,z⟩
 ·refine⟨its.toList,r,⟨o,I.kIn a o hk,hc,n,by simpa using hs⟩,?_⟩;have e:=r.length;simp only[_ac]at e;omega
theorem Inv.list_inj(I:Inv X pins O H s)(h:SqL X.K H a xs)(h':SqL X.K H a ys):xs=ys:=by
 obtain⟨its,r,⟨o,n,e,_,_,d⟩,_⟩:=I.list h;obtain⟨its',r',⟨o',n',e',_,_,d'⟩,_⟩:=I.list h';rw[e]at e';cases e';rw[d]at d';injection d' with d1 _;have:its=its':=by simpa using _aC Array.toList d1
 subst this;exact r.inj r'
theorem Inv.tuple_inj(I:Inv X pins O H s)(h:SqT X.K H a xs)(h':SqT X.K H a ys):xs=ys:=by
 obtain⟨its,r,⟨o,e,_,n,d⟩,_⟩:=I.tuple h;obtain⟨its',r',⟨o',e',_,n',d'⟩,_⟩:=I.tuple h';rw[e]at e';cases e';rw[d]at d';injection d' with d1 _;have:its=its':=by simpa using _aC Array.toList d1
 subst this;exact r.inj r'
end
abbrev Cx.wish(X:Cx)(E:Value->Shared->Prop):Cx:={X with xe:=E}
abbrev Cx.nox(X:Cx):Cx:=X.wish λ_ _=>False
theorem Cx.Ok.wish{X:Cx}(ok:X.Ok)(E:Value->Shared->Prop):(X.wish E).Ok:= ⟨ok.mod,ok.kind,ok.glob,ok.blt,ok.above,ok.inj,ok.has,ok.cab,ok.hd,ok.frames,ok.stk,ok.exf,ok.bs,ok.bsz,ok.noex,ok.exfs,ok.funs,ok.frf⟩
theorem Cx.Ok.unwish{X:Cx}{E:Value->Shared->Prop}(ok:(X.wish E).Ok):X.Ok:= ⟨ok.mod,ok.kind,ok.glob,ok.blt,ok.above,ok.inj,ok.has,ok.cab,ok.hd,ok.frames,ok.stk,ok.exf,ok.bs,ok.bsz,ok.noex,ok.exfs,ok.funs,ok.frf⟩
section
variable {X:Cx}{pins:List (Addr×Obj)}{O:St}{H:Hp}{s:Shared}{E:Value->Shared->Prop}
theorem Inv.wish(I:Inv X pins O H s)(E:Value->Shared->Prop):Inv (X.wish E) pins O H s:=⟨I.ok.wish E,I.os,I.bare,I.base,I.loc,I.cell,I.free,I.freeC,I.pin,I.hok,I.len⟩
theorem Inv.unwish(I:Inv (X.wish E) pins O H s):Inv X pins O H s:=⟨I.ok.unwish,I.os,I.bare,I.base,I.loc,I.cell,I.free,I.freeC,I.pin,I.hok,I.len⟩
theorem SP.unwish{D:z82}{f:Flow}{s':Shared}(h:SP (X.wish E) pins D f s'):SP X pins D f s':=by cases f with
 | next=>obtain⟨O',H',I,q⟩:=h;exact⟨O',H',I.unwish,q⟩ | brk=>obtain⟨O',H',I,q⟩:=h;exact⟨O',H',I.unwish,q⟩ | cont=>obtain⟨O',H',I,q⟩:=h;exact⟨O',H',I.unwish,q⟩ | ret u=>obtain⟨v,O',H',I,r,q⟩:=h;exact⟨v,O',H',I.unwish,r,q⟩
theorem PSs.nox{st:List Stmt}{t:TS}(h:PSs X.nox st t):PSs X st t:=λpins s O H D I hw=> _J (h pins s O H D (I.wish _) hw) (λ_ _ q=>q.unwish) λ_ _ z=>False.elim z
end
section
variable {X:Cx}{st:Stmt}{jr:List Stmt}{t u:TS}{e:Expr}{te:TE}{pos:Pos}
def zbu:TS:=λD O H=>D.nx O H
def zcm(t u:TS):TS:=λD O H=>t {D with nx:=u D} O H
theorem z7u:PSs X [] zbu:=λ_ _ O H _ I h=>_a4 ⟨O,H,I,h⟩
theorem z5y(h1:PS X st t)(h2:PSs X jr u):PSs X (st::jr) (zcm t u):=by
 intro pins s O H D I h;refine wpAny_execs_cons (thn (h1 pins s O H {D with nx:=u D} I h) λf s1 q=>?_);cases f with
 | next=>
  obtain⟨O',H',I',q⟩:=q;exact h2 pins s1 O' H' D I' q | ret v=>exact q | brk=>exact q | cont=>exact q
theorem z7t(h1:PS X st t):PSs X [st] t:=by
 intro pins s O H D I h;refine wpAny_execs_cons (thn (h1 pins s O H D I h) λf s1 q=>?_);cases f with
 | next=>exact _a4 q | ret v=>exact q | brk=>exact q | cont=>exact q
theorem Inv.quiet{pins:List (Addr×Obj)}{O:St}{H:Hp}{s:Shared}(I:Inv X pins O H s):interactive X.env=false:=by simp[interactive,I.ok.kind]
def zbK(te:TE):TS:=λD O H=>te O H λ_ H1=>D.nx O H1
theorem z89(he:PE X e te)(hs:swapsWith e none pos.line X.env=pure false:=by rfl):PS X (.Expr e pos) (zbK te):=by
 intro pins s O H D I h;exact wpAny_Expr_any (thn (he pins s O H _ I h) λv s1 ⟨x,H1,I1,r1,q1⟩=>⟨O,H1,I1,q1⟩) I.quiet hs
def zd2(te:TE):TS:=λD O H=>te O H D.rt
theorem z9l(he:PE X e te):PS X (.Return (some e) pos) (zd2 te):=by
 intro pins s O H D I h;exact wpAny_Return_some (thn (he pins s O H _ I h) λv s1 ⟨x,H1,I1,r1,q1⟩=>⟨x,O,H1,I1,r1,q1⟩)
def zdt(c:TT)(t u:TS):TS:=λD O H=>c O H λb H1=>if b=true then t D O H1 else u D O H1
theorem zc6{c:Expr}{a b:List Stmt}{tc:TT}(hc:PT X c tc)(ha:PSs X a t)(hb:PSs X b u):PS X (.If c a b pos) (zdt tc t u):=by
 intro pins s O H D I h;refine wpAny_If (thn (hc pins s O H _ I h) λd s1 ⟨H1,I1,q1⟩=>?_);cases d with
 | true=>exact ha pins s1 O H1 D I1 q1 | false=>exact hb pins s1 O H1 D I1 q1
end
abbrev TG:=V->St->Hp->(St->Hp->Prop)->Prop
abbrev TGs:=List V->St->Hp->(St->Hp->Prop)->Prop
def PG(X:Cx)(target:Expr)(t:TG):Prop:= ∀(pins:List (Addr×Obj))(s:Shared)(O:St)(H:Hp)(v:V)(u:Value)(Q:St->Hp->Prop),Inv X pins O H s->yP v u->t v O H Q-> wpAny (model X.prog X.w) X.A (assign target X.env u) (λ_ s'=>∃O' H',Inv X pins O' H' s'/\Q O' H') X.xe s
def PGs(X:Cx)(ts:List Expr)(t:TGs):Prop:= ∀(pins:List (Addr×Obj))(s:Shared)(O:St)(H:Hp)(vs:List V)(us:List Value)(Q:St->Hp->Prop),Inv X pins O H s->yt vs us->t vs O H Q-> wpAny (model X.prog X.w) X.A (assignInOrder ((assignEach ts X.env).map (·.2)) us) (λ_ s'=>∃O' H',Inv X pins O' H' s'/\Q O' H') X.xe s
abbrev zbS:=V->V->V->Hp->(Hp->Prop)->Prop
def zcv(X:Cx)(t:zbS):Prop:= ∀(pins:List (Addr×Obj))(s:Shared)(O:St)(H:Hp)(o i v:V)(ov iv u:Value)(Q:Hp->Prop),Inv X pins O H s->yP o ov->yP i iv->yP v u->t o i v H Q-> wpAny (model X.prog X.w) X.A (setItem ov iv u) (λ_ s'=>∃H',Inv X pins O H' s'/\Q H') X.xe s
section
variable {X:Cx}{pos:Pos}
def z4h(i:Nat):TG:=λv O H Q=>Q (O.set i (some v)) H
theorem xZ{i:Nat}{x:Str}(hN:X.N.Nodup)(hi:X.N[i]? = some x)(hx:Loc X.env.scope x)(hf:X.fn x=true\/X.env.scope.names.lookup x=some .local:=by first | exact .inl rfl | exact .inr rfl | assumption):PG X (.Name x pos) (z4h i):=by
 intro pins s O H v u Q I r h;exact wpAny_assign_Name (z0w I hN hi hx r (λs' I'=>⟨_,H,I',h⟩) hf)
def zcn:TGs:=λvs O H Q=>vs=[]/\Q O H
def z7Z(t:TG)(u:TGs):TGs:=λvs O H Q=>∃v r,vs=v::r/\t v O H λO' H'=>u r O' H' Q
theorem z8p:PGs X [] zcn:=by
 intro pins s O H vs us Q I r h;obtain⟨e,h⟩:=h;subst e;cases r;exact assignInOrder_nil ⟨O,H,I,h⟩
theorem z3r{e:Expr}{es:List Expr}{t:TG}{u:TGs}(h1:PG X e t)(h2:PGs X es u) (hs:(assignEach (e::es) X.env).map (·.2)=assign e X.env::(assignEach es X.env).map (·.2):=by rfl):PGs X (e::es) (z7Z t u):=by
 intro pins s O H vs us Q I r h;obtain⟨v,vr,e1,h⟩:=h;subst e1;cases r with | cons r rr=>
  rw[hs];refine assignInOrder_cons (thn (h1 pins s O H _ _ _ I r h) λ_ s1 ⟨O1,H1,I1,q1⟩=>?_);exact h2 pins s1 O1 H1 _ _ Q I1 rr q1
def zcw(K:W.Frag)(n:Nat)(t:TGs):TG:=λv O H Q=>∃a xs,v=.ref a/\SqT K H a xs/\xs.length=n/\t xs O H Q
theorem zag{es:List Expr}{k:Nat}{t:TGs}{n:Nat}(hc:X.calm=true)(h:PGs X es t) (hn:(assignEach es X.env).length=n:=by rfl)(hst:(assignEach es X.env).findIdx? (·.1)=none:=by rfl):PG X (.Tuple es k pos) (zcw X.K n t):=by
 intro pins s O H v u Q I r hw;obtain⟨a,xs,e1,hq,hl,hw⟩:=hw;subst e1;cases r;obtain⟨its,rv,ht,hz⟩:=I.tuple hq;refine assign_Tuple_tuple (I.ok.hd hc) ht (by simp[hn,<- hl,rv.length]) hst λh' hx=>?_;have I1:Inv X pins O H {s with heap:=h'}:=I.kept (t':=s.toks) λb o e=>hx b o (_u (_h e)) e;exact h pins _ O H xs _ Q I1 (by simpa using rv) hw
def zdm(to ti:TE)(t:zbS):TG:=λv O H Q=>to O H λo H1=>ti O H1 λi H2=>t o i v H2 λH3=>Q O H3
theorem z8U{o i:Expr}{to ti:TE}{t:zbS}(ho:PE X o to)(hi:PE X i ti)(hs:zcv X t) (ha:∀v,assign (.Subscript o i pos) X.env v=(do
   let ov <- holding [v] (eval o X.env) let iv <- holding [v,ov] (eval i X.env)
   standAt pos
   holding [v,ov,iv] (setItem ov iv v)
   release [v,ov,iv] []):=by intro _;rfl):PG X (.Subscript o i pos) (zdm to ti t):=by
 intro pins s O H v u Q I r h;rw[ha];refine _a (_a0 (thn (ho pins s O H _ I h) λov s1 ⟨x,H1,I1,r1,q1⟩=>?_));refine _a (_a0 (thn (hi pins s1 O H1 _ I1 q1) λiv s2 ⟨y,H2,I2,r2,q2⟩=>?_));refine _a (wpAny_standAt (_a (_a0 (thn (hs pins s2 O H2 x y v ov iv u _ I2 r1 r2 r q2) λ_ s3 ⟨H3,I3,q3⟩=>?_))));exact wpAny_release ⟨O,H3,I3,q3⟩
def zcl(te:TE)(g:TG):TS:=λD O H=>te O H λx H1=>g x O H1 D.nx
theorem z9R{tg e:Expr}{te:TE}{g:TG}(he:PE X e te)(hg:PG X tg g)(hs:swapsWithSole [tg] e pos.line X.env=pure false:=by rfl)(hw:swappedStores [tg] e X.env=pure none:=by rfl) (h1:(assignEach [tg] X.env).map (·.2)=[assign tg X.env]:=by rfl):PS X (.Assign [tg] e pos) (zcl te g):=by
 intro pins s O H D I h;refine wpAny_Assign_stores (thn (he pins s O H _ I h) λv s1 ⟨x,H1,I1,r1,q1⟩=>?_) hs hw;rw[h1];exact thn (hg pins s1 O H1 x v _ I1 r1 q1) λ_ s2 q=>q
theorem zaH{i:Nat}{x:Str}{e:Expr}{te:TE}{pos':Pos}(hN:X.N.Nodup)(hi:X.N[i]? = some x)(hx:Loc X.env.scope x)(he:PE X e te)(hs:swapsWith e (some (.Name x pos')) pos.line X.env=pure false:=by rfl)(hf:X.fn x=true\/X.env.scope.names.lookup x=some .local:=by first | exact .inl rfl | exact .inr rfl | assumption): PS X (.Assign [.Name x pos'] e pos) (zcl te (z4h i)):=by
 intro pins s O H D I h;refine wpAny_Assign_Name (thn (he pins s O H _ I h) λv s1 ⟨y,H1,I1,r1,q1⟩=>?_) hs;exact z0w I1 hN hi hx r1 (λs2 I2=>⟨_,H1,I2,q1⟩) hf
end
section
variable {X:Cx}{pos:Pos}
def z9r(c:TT)(tb:TS):TS:=λD O H=>∃W:Nat->St->Hp->Prop,(∃m,W m O H)/\∀m O H,W m O H-> c O H λb H1=>if b=true then ∃N:St->Hp->Prop,(∀O' H',N O' H'->∃m',m'<m/\W m' O' H')/\tb {D with nx:=N,ct:=N,bk:=D.nx} O H1 else D.nx O H1
theorem z6x{c:Expr}{body:List Stmt}{tc:TT}{tb:TS}(hp:PassesOwn (model X.prog X.w) X.A X.env X.xe)(hc:PT X c tc)(hb:PSs X body tb):PS X (.While c body [] pos) (z9r tc tb):=by
 intro pins s O H D I h;obtain⟨W,⟨m0,w0⟩,z4d⟩:=h;refine wpAny_While (codeAny_whileLoop (λn s'=>∃O' H',Inv X pins O' H' s'/\W n O' H') ?_ m0 ⟨O,H,I,w0⟩);rintro n s1 ⟨O1,H1,I1,w1⟩;refine _ap hp (thn (hc pins s1 O1 H1 _ I1 (z4d n O1 H1 w1)) λb s2 ⟨H2,I2,q2⟩=>?_);cases b with
 | true=>
  obtain⟨N,hN,q2⟩:=q2;rw[_f rfl];refine _ap hp (thn (hb pins s2 O1 H2 _ I2 q2) λf s3 q3=>?_);cases f with
  | next=>
   obtain⟨O3,H3,I3,n3⟩:=q3;obtain⟨m',hm,w3⟩:=hN O3 H3 n3;exact⟨m',hm,O3,H3,I3,w3⟩ | cont=>
   obtain⟨O3,H3,I3,n3⟩:=q3;obtain⟨m',hm,w3⟩:=hN O3 H3 n3;exact⟨m',hm,O3,H3,I3,w3⟩ | brk=>exact q3 | ret v=>exact q3
 | false=>
  rw[_o _K];exact _a4 ⟨O1,H2,I2,q2⟩
end
structure It where
 go:Nat->Hp->Prop
 yld:Nat->Hp->V->Hp->Prop
 stop:Nat->Hp->Prop
def z2G(X:Cx)(pins:List (Addr×Obj))(H:Hp)(b:Addr):Prop:= H b=none/\b≠X.env.locals/\b∉X.fs/\(b∈X.ex\/X.s₀.heap.objs.size<=b)/\(∀x c,X.env.cells.lookup x=some c->c≠b)/\∀p∈X.pn++pins,p.1≠b
theorem Inv.fpOk{X:Cx}{pins:List (Addr×Obj)}{O:St}{H H':Hp}{s:Shared}{b:Addr}(I:Inv X pins O H s)(hb:s.heap.objs.size<=b)(hn:H' b=none):z2G X pins H' b:=by
 refine⟨hn,_bJ (_e I.lt hb),I.nofs hb,.inr (_v I.sz hb),λx c e z=>?_,λp hp z=>?_⟩
 ·obtain⟨v,q⟩:=I.cell x c e;exact absurd (_e q.lt (by rw[z];exact hb)) (_V _)
 ·exact absurd (_e (_h (I.pin p hp).1) (by rw[z];exact hb)) (_V _)
structure z7G(P:Program)(w:World)(K:W.Frag)(tg:Expr)(J:It)(fp:List Addr)(it:Addr)(tn:Nat->Heap->Prop):Prop where
 mem:it∈fp
 obj:∀i h,tn i h->∀b∈fp,∃o,h.get? b=some o/\∀v,o.data≠.cell v
 keep:∀i h h',tn i h->(∀b∈fp,∀o,h.get? b=some o->h'.get? b=some o)->tn i h'
 item:∀(X:Cx),X.prog=P->X.w=w->X.K=K->X.calm=true->∀(i:Nat)(pins:List (Addr×Obj))(s:Shared)(O:St)(H:Hp)(E:Value->Shared->Prop),Inv X pins O H s->(∀b∈fp,z2G X pins H b)->tn i s.heap->J.go i H-> wpAny (model P w) X.A (pyNext (.ref it)) (λr s1=>∃u,r=some u/\ wpAny (model P w) X.A (letOwnedTupleGo tg (.ref it) u) (λ_ s2=>∃x H',Inv X pins O H' s2/\yP x u/\J.yld i H x H'/\tn (i+1) s2.heap/\∀b∈fp,H' b=none) E s1) E s
 done:∀(X:Cx),X.prog=P->X.w=w->X.K=K->X.calm=true->∀(i:Nat)(pins:List (Addr×Obj))(s:Shared)(O:St)(H:Hp)(E:Value->Shared->Prop),Inv X pins O H s->(∀b∈fp,z2G X pins H b)->tn i s.heap->J.stop i H-> wpAny (model P w) X.A (pyNext (.ref it)) (λr s1=>r=none/\Inv X pins O H s1) E s
 self:∀(A:Around)(i:Nat)(s:Shared)(Q:Value->Shared->Prop)(E:Value->Shared->Prop),tn i s.heap->Q (.ref it) s->wpAny (model P w) A (pyIter (.ref it)) Q E s
abbrev TI:=St->Hp->(It->Hp->Prop)->Prop
def PIE(X:Cx)(pins:List (Addr×Obj))(O:St)(tg:Expr)(R:It->Hp->Prop)(itv:Value)(s2:Shared):Prop:= ∃(it:Addr)(fp:List Addr)(tn:Nat->Heap->Prop)(J:It)(H':Hp),itv=.ref it/\Inv X pins O H' s2/\z7G X.prog X.w X.K tg J fp it tn/\tn 0 s2.heap/\(∀b∈fp,z2G X pins H' b)/\R J H'
def PI(X:Cx)(tg iter:Expr)(wi:TI):Prop:= ∀(pins:List (Addr×Obj))(s:Shared)(O:St)(H:Hp)(R:It->Hp->Prop),Inv X pins O H s->wi O H R-> wpAny (model X.prog X.w) X.A (eval iter X.env) (λv s1=>wpAny (model X.prog X.w) X.A (pyIter v) (PIE X pins O tg R) X.xe s1) X.xe s
theorem z5D{M:Model}{A:Around}{E:Value->Shared->Prop}{s:Shared}{tg:Expr}{it:Addr}{u:Value}{o:Obj}{n:String}{vs:Array Value}{Q:Unit->Shared->Prop}(ho:s.heap.get? it=some o)(hc:o.cls=.type n)(hd:o.data=.fields vs) (hn:["enumerate","zip","dict_itemiterator","dict_reverseitemiterator","odict_iterator","itertools.zip_longest","itertools.pairwise"].contains n=false)(hQ:Q () s):wpAny M A (letOwnedTupleGo tg (.ref it) u) Q E s:=by
  unfold letOwnedTupleGo;cases tg<;>first
    | exact _k hQ | (cases u<;>first
        | exact _k hQ
        | (refine _a (wpAny_load ho ?_);rw[hc,hd];show wpAny M A (if (["enumerate","zip","dict_itemiterator","dict_reverseitemiterator","odict_iterator","itertools.zip_longest","itertools.pairwise"].contains n&&vs[0]? == some (rawInt _))=true then _ else _) Q E s;rw[_o (by intro h;rw[hn,Bool.false_and]at h;cases h)];exact _k hQ))
def Itl(K:W.Frag)(a:Addr):It:= ⟨λi H=>∃xs x,SqL K H a xs/\xs[i]? = some x,λi H x H'=>H'=H/\∀xs,SqL K H a xs->xs[i]? = some x,λi H=>∃xs,SqL K H a xs/\xs.length<=i⟩
def Itt(K:W.Frag)(a:Addr):It:= ⟨λi H=>∃xs x,SqT K H a xs/\xs[i]? = some x,λi H x H'=>H'=H/\∀xs,SqT K H a xs->xs[i]? = some x,λi H=>∃xs,SqT K H a xs/\xs.length<=i⟩
def Itr(lo:Int)(n:Nat):It:=⟨λi _=>i<n,λi H x H'=>H'=H/\x=.int (lo+i),λi _=>n<=i⟩
theorem z4Q{P:Program}{w:World}{K:W.Frag}{tg:Expr}(a it:Addr):z7G P w K tg (Itl K a) [it] it (λi h=>h.IsListIter it a i) where
 mem:=by simp
 obj:=λi h st b hb=>by
  have e:b=it:=by simpa using hb
  subst e;obtain⟨o,e,c,d⟩:=st;exact⟨o,e,λv z=>by rw[d]at z;cases z⟩
 keep:=λi h h' st k=>st.at λo e=>k it (by simp) o e;item:=by
  intro X hP hw hK hc i pins s O H E I hf st hg;subst hP hw hK;obtain⟨xs,x,hq,hx⟩:=hg;obtain⟨its,rv,p,hz⟩:=I.list hq;obtain⟨u,hu,ru⟩:=rv.get hx;obtain⟨f0,f1,f2,f3,f4,f5⟩:=hf it (by simp);refine wpAny_pyNext_list_item st p.isList (x:=u) (by simpa using hu) λh' st' sb=>?_;have I1:Inv X pins O H {s with heap:=h'}:=I.turned (t':=s.toks) (λb o hb e=>(sb.2 b hb).trans e) f0 f1 f3 f4 f5;obtain⟨o,e,c,d⟩:=id st';exact⟨u,rfl,z5D (s:={s with heap:=h'}) e c d (by decide) ⟨x,H,I1,ru,⟨rfl,λys hy=>by rw[I.list_inj hy hq];exact hx⟩,st',λb hb=>(hf b hb).1⟩⟩
 done:=by
  intro X hP hw hK hc i pins s O H E I hf st hg;subst hP hw hK;obtain⟨xs,hq,hx⟩:=hg;obtain⟨its,rv,p,hz⟩:=I.list hq;obtain⟨f0,f1,f2,f3,f4,f5⟩:=hf it (by simp);have hl:=rv.length;exact wpAny_pyNext_list_end (I.ok.hd hc) st p.isList (by simp;omega) λh' eb=>⟨rfl,I.turned (t':=s.toks) (λb o hb e=>eb b o hb e) f0 f1 f3 f4 f5⟩
 self:=λ_ _ _ _ _ st h=>wpAny_pyIter_listiter st h
theorem z3W {P:Program} {w:World} {K:W.Frag} {tg:Expr} (a it:Addr):z7G P w K tg (Itt K a) [it] it (λi h=>h.IsTupleIter it a i) where
 mem:=by simp
 obj:=λi h st b hb=>by
  have e:b=it:=by simpa using hb
  subst e;obtain⟨o,e,c,d⟩:=st;exact⟨o,e,λv z=>by rw[d]at z;cases z⟩
 keep:=λi h h' st k=>st.at λo e=>k it (by simp) o e;item:=by
  intro X hP hw hK hc i pins s O H E I hf st hg;subst hP hw hK;obtain⟨xs,x,hq,hx⟩:=hg;obtain⟨its,rv,p,hz⟩:=I.tuple hq;obtain⟨u,hu,ru⟩:=rv.get hx;obtain⟨f0,f1,f2,f3,f4,f5⟩:=hf it (by simp);refine wpAny_pyNext_tuple_item st (show s.heap.IsTuple a its.toArray from p) (x:=u) (by simpa using hu) λh' st' sb=>?_;have I1:Inv X pins O H {s with heap:=h'}:=I.turned (t':=s.toks) (λb o hb e=>(sb.2 b hb).trans e) f0 f1 f3 f4 f5;obtain⟨o,e,c,d⟩:=id st';exact⟨u,rfl,z5D (s:={s with heap:=h'}) e c d (by decide) ⟨x,H,I1,ru,⟨rfl,λys hy=>by rw[I.tuple_inj hy hq];exact hx⟩,st',λb hb=>(hf b hb).1⟩⟩
 done:=by
  intro X hP hw hK hc i pins s O H E I hf st hg;subst hP hw hK;obtain⟨xs,hq,hx⟩:=hg;obtain⟨its,rv,p,hz⟩:=I.tuple hq;obtain⟨f0,f1,f2,f3,f4,f5⟩:=hf it (by simp);have hl:=rv.length;exact wpAny_pyNext_tuple_end (I.ok.hd hc) st (show s.heap.IsTuple a its.toArray from p) (by simp;omega) λh' eb=>⟨rfl,I.turned (t':=s.toks) (λb o hb e=>eb b o hb e) f0 f1 f3 f4 f5⟩
 self:=λ_ _ _ _ _ st h=>wpAny_pyIter_tupleiter st h
theorem z3G {P:Program} {w:World} {K:W.Frag} {tg:Expr} (it:Addr) (lo:Int) (n:Nat):z7G P w K tg (Itr lo n) [it] it (λi h=>IsRangeIter h it (lo+(i:Nat)*1) ((n:Int)-(i:Nat)) 1) where
 mem:=by simp
 obj:=λi h st b hb=>by
  have e:b=it:=by simpa using hb
  subst e;exact⟨_,st,λv z=>by
   have z':Data.fields _=Data.cell v:=z;cases z'⟩
 keep:=λi h h' st k=>k it (by simp) _ st;item:=by
  intro X hP hw hK hc i pins s O H E I hf st hg;subst hP hw hK;obtain⟨f0,f1,f2,f3,f4,f5⟩:=hf it (by simp);have W:=Walks.range (prog:=X.prog) (w:=X.w) (I.ok.hd hc) it lo 1 n;refine W.item i s _ _ hg st λv h' tk hv st' kk=>?_;obtain⟨t,rfl⟩:=hv;have I1:Inv X pins O H {s with heap:=h',toks:=tk}:=I.turned (λb o hb e=>kk b o (by simpa using hb) e) f0 f1 f3 f4 f5;refine⟨_,rfl,z5D (s:={s with heap:=h',toks:=tk}) (n:="range_iterator") st' rfl rfl (by decide) ⟨.int (lo+i),H,I1,⟨t,?_⟩,⟨rfl,rfl⟩,st',λb hb=>(hf b hb).1⟩⟩;rw[Int.mul_one]
 done:=by
  intro X hP hw hK hc i pins s O H E I hf st hg;subst hP hw hK;obtain⟨f0,f1,f2,f3,f4,f5⟩:=hf it (by simp);exact wpAny_pyNext_range_end (I.ok.hd hc) st (by have:n<=i:=hg;omega) λh' eb=>⟨rfl,I.turned (t':=s.toks) (λb o hb e=>eb b o hb e) f0 f1 f3 f4 f5⟩
 self:=λ_ _ _ _ _ st h=>wpAny_pyIter_rangeiter st h
section
variable {X:Cx}{tg:Expr}
theorem z5z{pins:List (Addr×Obj)}{O:St}{H:Hp}{s:Shared}{R:It->Hp->Prop}{E:Value->Shared->Prop}{lo hi:Int}{t u v:Tok}{tk:Nat}(I:Inv X pins O H s)(h1:-(2 ^ 62)<=lo)(h2:lo<2 ^ 62)(h3:-(2 ^ 62)<=hi)(h4:hi<2 ^ 62) (q:R (Itr lo (hi-lo).toNat) H):wpAny (model X.prog X.w) X.A (pyIter (.ref s.heap.objs.size)) (PIE X pins O tg R) E {s with heap:=s.heap.push {cls:=.type "range",data:=.fields #[.int lo t,.int hi u,.int 1 v]},toks:=tk}:=by
 refine wpAny_pyIter_range (IsRange.new ..) (small_one h1 h2 h3 h4) ?_;have I1:Inv X pins O H {s with heap:=s.heap.push {cls:=.type "range",data:=.fields #[.int lo t,.int hi u,.int 1 v]},toks:=tk}:=I.kept λb o e=>_d _ e;refine⟨(s.heap.push {cls:=.type "range",data:=.fields #[.int lo t,.int hi u,.int 1 v]}).objs.size,[(s.heap.push {cls:=.type "range",data:=.fields #[.int lo t,.int hi u,.int 1 v]}).objs.size],_,_,H,rfl, I1.kept (t':=tk) λb o e=>_d _ e,z3G _ lo (hi-lo).toNat,?_,λb hb=>?_,q⟩
 ·have e1:lo+((0:Nat):Int)*1=lo:=by simp
  have e2:(((hi-lo).toNat:Nat):Int)-((0:Nat):Int)=Builtin.Range.rangeSize lo hi 1:=by rw[rangeSize_one];split<;>omega
  show IsRangeIter _ _ (lo+((0:Nat):Int)*1) ((((hi-lo).toNat:Nat):Int)-((0:Nat):Int)) 1;rw[e1,e2];exact _m _ rfl
 ·have e:b=(s.heap.push {cls:=.type "range",data:=.fields #[.int lo t,.int hi u,.int 1 v]}).objs.size:=by simpa using hb
  subst e;exact I1.fpOk (_i _) (I1.hok.fresh (_i _))
def zbd(ta:TA):TI:=λO H R=>ta O H λvs H1=>∃j:Int,vs=[.int j]/\-(2 ^ 62)<=j/\j<2 ^ 62/\R (Itr 0 j.toNat) H1
theorem z5i{a:Expr}{ta:TA}{p pos:Pos}(hg:Gl X "range")(hm:X.mg "range"=none)(ha:PA X [a] ta)(hs:starEach [a] X.env=[(false,eval a X.env)]:=by rfl):PI X tg (.Call (.Name "range" p) [a] [] pos) (zbd ta):=by
 intro pins s O H R I h;refine Call_ (z1P I hg hm boot_range (_aA (thn (ha pos pins s O H _ I h) λus s1 ⟨vs,H1,I1,r1,q1⟩=>?_) hs rfl));obtain⟨j,e,q1,q2,q⟩:=q1;subst e;cases r1 with | cons r rr=>
  cases rr;obtain⟨t,rfl⟩:=r;exact call_range_1 (z5z I1 (by omega) (by omega) q1 q2 (by simpa using q))
def zdi(wi:TI)(g:TG)(tb:TS):TS:=λD O H=>wi O H λJ H1=>∃W:Nat->Nat->St->Hp->Prop,(∃m,W 0 m O H1)/\∀i m O H,W i m O H-> (J.stop i H/\D.nx O H)\/(J.go i H/\∃N:St->Hp->Prop,(∀O' H',N O' H'->∃m',m'<m/\W (i+1) m' O' H')/\∀x H',J.yld i H x H'->g x O H' λO2 H2=>tb {D with nx:=N,ct:=N,bk:=D.nx} O2 H2)
def z1M(fp:List Addr)(h:Heap):List (Addr×Obj):=fp.filterMap λb=>(h.get? b).map λo=>(b,o)
theorem qb{fp:List Addr}{h:Heap}{b:Addr}{o:Obj}(hb:b∈fp)(e:h.get? b=some o):(b,o)∈z1M fp h:=_aL.mpr ⟨b,hb,by rw[e];rfl⟩
theorem z4D{fp:List Addr}{h:Heap}{p:Addr×Obj}(hp:p∈z1M fp h):p.1∈fp/\h.get? p.1=some p.2:=by
 obtain⟨b,hb,e⟩:=_aL.mp hp;cases q:h.get? b with
 | none=>rw[q]at e;cases e | some o=>
  rw[q]at e;have e':(b,o)=p:=_s e;subst e';exact⟨hb,q⟩
theorem Inv.pinned{pins:List (Addr×Obj)}{O:St}{H:Hp}{s:Shared}{fp:List Addr}(I:Inv X pins O H s)(hf:∀b∈fp,z2G X pins H b)(ho:∀b∈fp,∃o,s.heap.get? b=some o/\∀v,o.data≠.cell v):Inv X (pins++z1M fp s.heap) O H s:= I.pins_of λp hp=>(_F.mp hp).elim (λz=>I.pin p (_D _ z)) λz=>by
  obtain⟨hb,e⟩:=z4D z;obtain⟨f0,f1,f2,_⟩:=hf p.1 hb;obtain⟨o,e',d⟩:=ho p.1 hb;rw[e]at e';cases e';exact⟨e,f0,f1,f2,d⟩
theorem Inv.unpinned{pins pl:List (Addr×Obj)}{O:St}{H:Hp}{s:Shared}(I:Inv X (pins++pl) O H s):Inv X pins O H s:=I.pins_of λp hp=>I.pin p (_D _ (_aq _ hp))
theorem z9X{iter:Expr}{body:List Stmt}{wi:TI}{g:TG}{tb:TS}{pos:Pos}(hp:PassesOwn (model X.prog X.w) X.A X.env X.xe)(hc:X.calm=true)(hi:PI X tg iter wi)(hg:PG X tg g)(hb:PSs X body tb) (hs:∀x,foldedSetIterable iter X.env x=pure x:=by intro _;rfl):PS X (.For tg iter body [] pos) (zdi wi g tb):=by
 intro pins s O H D I h;refine wpAny_For (thn (hi pins s O H _ I h) λv s1 h1=>thn h1 λitv s2 h2=>?_) hs;obtain⟨it,fp,tn,J,H2,e,I2,T,st2,f2,W,⟨m0,w0⟩,z4d⟩:=h2;subst e;have stat:∀{H':Hp},(∀b∈fp,H' b=none)->∀b∈fp,z2G X pins H' b:=λhn b hb=>⟨hn b hb,(f2 b hb).2⟩;refine codeAny_forLoop_any (λn s'=>∃i O' H',Inv X pins O' H' s'/\tn i s'.heap/\(∀b∈fp,H' b=none)/\W i n O' H') ?_ m0 ⟨0,O,H2,I2,st2,λb hb=>(f2 b hb).1,w0⟩;rintro n s3 ⟨i,O3,H3,I3,st3,fr3,w3⟩;rcases z4d i n O3 H3 w3 with⟨stop,qn⟩ | ⟨go,N,hN,step⟩
 ·refine _ap hp (thn (T.done X rfl rfl rfl hc i pins s3 O3 H3 X.xe I3 (stat fr3) st3 stop) λr s4 ⟨hr,I4⟩=>?_);subst hr;exact _a4 ⟨O3,H3,I4,qn⟩
 ·refine _ap hp (thn (T.item X rfl rfl rfl hc i pins s3 O3 H3 X.xe I3 (stat fr3) st3 go) λr s4 ⟨u,hr,h4⟩=>?_);subst hr;refine _ap hp (thn h4 λ_ s5 ⟨x,H5,I5,r5,y5,st5,fr5⟩=>?_);have I5':=I5.pinned (stat fr5) (T.obj _ _ st5);refine _ap hp (thn (hg _ s5 O3 H5 x u _ I5' r5 (step x H5 y5)) λ_ s6 ⟨O6,H6,I6,q6⟩=>?_);refine _ap hp (thn (hb _ s6 O6 H6 _ I6 q6) λf s7 q7=>?_);have again:∀{O7:St}{H7:Hp},Inv X (pins++z1M fp s5.heap) O7 H7 s7->N O7 H7->∃m,m<n/\∃i O' H',Inv X pins O' H' s7/\tn i s7.heap/\(∀b∈fp,H' b=none)/\W i m O' H':=λ{O7 H7} I7 n7=>by
   obtain⟨m',hm,w7⟩:=hN O7 H7 n7;refine⟨m',hm,i+1,O7,H7,I7.unpinned,T.keep _ _ _ st5 λb hb o e=>(I7.pin (b,o) (_D _ (_D _ (qb hb e)))).1,λb hb=>?_,w7⟩;obtain⟨o,e,d⟩:=T.obj _ _ st5 b hb;exact (I7.pin (b,o) (_D _ (_D _ (qb hb e)))).2.1
  cases f with
  | next=>obtain⟨O7,H7,I7,n7⟩:=q7;exact again I7 n7 | cont=>obtain⟨O7,H7,I7,n7⟩:=q7;exact again I7 n7 | brk=>obtain⟨O7,H7,I7,q7⟩:=q7;exact⟨O7,H7,I7.unpinned,q7⟩ | ret v=>obtain⟨x7,O7,H7,I7,r7,q7⟩:=q7;exact⟨x7,O7,H7,I7.unpinned,r7,q7⟩
end
abbrev R2:=V->V->Hp->VK->Prop
def OpR(X:Cx)(f:Value->Value->Sem Value)(r:R2):Prop:= ∀(pins:List (Addr×Obj))(s:Shared)(O:St)(H:Hp)(x y:V)(v u:Value)(Q:VK),Inv X pins O H s->yP x v->yP y u->r x y H Q-> wpAny (model X.prog X.w) X.A (f v u) (EP X pins O Q) X.xe s
def UnR(X:Cx)(f:Value->Sem Value)(r:V->Hp->VK->Prop):Prop:= ∀(pins:List (Addr×Obj))(s:Shared)(O:St)(H:Hp)(x:V)(v:Value)(Q:VK),Inv X pins O H s->yP x v->r x H Q-> wpAny (model X.prog X.w) X.A (f v) (EP X pins O Q) X.xe s
def yB(X:Cx)(f:Value)(r:List V->Hp->VK->Prop):Prop:= ∀(pins:List (Addr×Obj))(s:Shared)(O:St)(H:Hp)(xs:List V)(us:List Value)(Q:VK),Inv X pins O H s->yt xs us->r xs H Q-> wpAny (model X.prog X.w) X.A (call f us) (EP X pins O Q) X.xe s
def tOp(r:R2)(ta tb:TE):TE:=λO H Q=>ta O H λx H1=>tb O H1 λy H2=>r x y H2 Q
def tUn(r:V->Hp->VK->Prop)(ta:TE):TE:=λO H Q=>ta O H λx H1=>r x H1 Q
def rI(C:Int->Int->Prop)(g:Int->Int->V):R2:=λx y H Q=>∃i j,x=.int i/\y=.int j/\C i j/\Q (g i j) H
def rI0(g:Int->Int->V):R2:=λx y H Q=>∃i j,x=.int i/\y=.int j/\Q (g i j) H
def rU(g:Int->V):V->Hp->VK->Prop:=λx H Q=>∃i,x=.int i/\Q (g i) H
section
variable {X:Cx}{a b c:Expr}{ta tb tc:TE}{pos:Pos}
theorem zc3(ha:PE X a ta)(hb:PE X b tb){pins:List (Addr×Obj)}{s:Shared}{O:St}{H:Hp}{R:V->V->Hp->Prop}(I:Inv X pins O H s) (h:ta O H λx H1=>tb O H1 λy H2=>R x y H2){Q:Value->Shared->Prop}{f:Value->Value->Sem Value} (hf:∀v u s2 x y H2,Inv X pins O H2 s2->yP x v->yP y u->R x y H2->wpAny (model X.prog X.w) X.A (f v u) Q X.xe s2): wpAny (model X.prog X.w) X.A (eval a X.env) (λv s₁=>wpAny (model X.prog X.w) X.A (eval b X.env) (λu s₂=>wpAny (model X.prog X.w) X.A (f v u) Q X.xe s₂) X.xe s₁) X.xe s:=by
 refine thn (ha pins s O H _ I h) λv s1 ⟨x,H1,I1,r1,q1⟩=>?_;refine thn (hb pins s1 O H1 _ I1 q1) λu s2 ⟨y,H2,I2,r2,q2⟩=>?_;exact hf v u s2 x y H2 I2 r1 r2 q2
theorem zb5{op:Operator}{r:R2}(ho:OpR X (binaryOp op) r)(ha:PE X a ta)(hb:PE X b tb):PE X (.BinOp a op b pos) (tOp r ta tb):=by
 intro pins s O H Q I h;exact wpAny_BinOp (zc3 ha hb I h λv u s2 x y H2 I2 rx ry q=>ho pins s2 O H2 x y v u Q I2 rx ry q)
theorem zbY{op:UnaryOp}{r:V->Hp->VK->Prop}(ho:UnR X (unaryOp op) r)(ha:PE X a ta):PE X (.UnaryOp op a pos) (tUn r ta):=by
 intro pins s O H Q I h;exact UnaryOp_ (thn (ha pins s O H _ I h) λv s1 ⟨x,H1,I1,r1,q1⟩=>ho pins s1 O H1 x v Q I1 r1 q1)
theorem opI {f:Value->Value->Sem Value} {C:Int->Int->Prop} {g:Int->Int->Int} (rule:∀(i j:Int) (t u:Tok) (s:Shared) (Q:Value->Shared->Prop) (E:Value->Shared->Prop),C i j->Q (.int (g i j) s.toks) {s with toks:=s.toks+1}->wpAny (model X.prog X.w) X.A (f (.int i t) (.int j u)) Q E s): OpR X f (rI C λi j=>.int (g i j)):=by
 intro pins s O H x y v u Q I rx ry h;obtain⟨i,j,rfl,rfl,hc,q⟩:=h;obtain⟨t,rfl⟩:=rx;obtain⟨t',rfl⟩:=ry;exact rule i j t t' s _ _ hc ⟨.int (g i j),H,I.tok _,⟨_,rfl⟩,q⟩
theorem zct {f:Value->Value->Sem Value} {g:Int->Int->Int} (rule:∀(i j:Int) (t u:Tok) (s:Shared) (Q:Value->Shared->Prop) (E:Value->Shared->Prop),Q (.int (g i j) s.toks) {s with toks:=s.toks+1}->wpAny (model X.prog X.w) X.A (f (.int i t) (.int j u)) Q E s): OpR X f (rI0 λi j=>.int (g i j)):=by
 intro pins s O H x y v u Q I rx ry h;obtain⟨i,j,rfl,rfl,q⟩:=h;obtain⟨t,rfl⟩:=rx;obtain⟨t',rfl⟩:=ry;exact rule i j t t' s _ _ ⟨.int (g i j),H,I.tok _,⟨_,rfl⟩,q⟩
theorem zb3{f:Value->Value->Sem Value}{g:Int->Int->Bool} (rule:∀(i j:Int)(t u:Tok)(s:Shared)(Q:Value->Shared->Prop)(E:Value->Shared->Prop),Q (.bool (g i j)) s->wpAny (model X.prog X.w) X.A (f (.int i t) (.int j u)) Q E s): OpR X f (rI0 λi j=>.bl (g i j)):=by
 intro pins s O H x y v u Q I rx ry h;obtain⟨i,j,rfl,rfl,q⟩:=h;obtain⟨t,rfl⟩:=rx;obtain⟨t',rfl⟩:=ry;exact rule i j t t' s _ _ ⟨.bl (g i j),H,I,rfl,q⟩
def zcV(i j:Int):Prop:=0<=j/\j<=1000000/\i.natAbs<2 ^ 64
theorem z9W:OpR X (binaryOp .Add) (rI0 λi j=>.int (i+j)):=zct λ_ _ _ _ _ _ _ q=>add_int q
theorem z96:OpR X (binaryOp .Sub) (rI0 λi j=>.int (i-j)):=zct λ_ _ _ _ _ _ _ q=>sub_int q
theorem z9f:OpR X (binaryOp .Mod) (rI (λ_ j=>0<j) λi j=>.int (i % j)):=opI λi j _ _ _ _ _ hc q=>by
 have h1:(0:Int)<j:=hc;exact mod_int' (by omega) (by rw[Int.fmod_eq_emod_of_nonneg i (by omega)];exact q)
theorem zan:OpR X (binaryOp .Pow) (rI zcV λi j=>.int (i ^ j.toNat)):=opI λ_ _ _ _ _ _ _ hc q=>pow_int_small hc.1 hc.2.1 hc.2.2 q
theorem unI {f:Value->Sem Value} {g:Int->Int} (rule:∀(i:Int) (t:Tok) (s:Shared) (Q:Value->Shared->Prop) (E:Value->Shared->Prop),Q (.int (g i) s.toks) {s with toks:=s.toks+1}->wpAny (model X.prog X.w) X.A (f (.int i t)) Q E s): UnR X f (rU λi=>.int (g i)):=by
 intro pins s O H x v Q I rx h;obtain⟨i,rfl,q⟩:=h;obtain⟨t,rfl⟩:=rx;exact rule i t s _ _ ⟨.int (g i),H,I.tok _,⟨_,rfl⟩,q⟩
theorem z9C:UnR X (unaryOp .USub) (rU λi=>.int (-i)):=unI λ_ _ _ _ _ q=>neg_int q
end
section
variable {X:Cx}{a b c:Expr}{ta tb tc:TE}{pos:Pos}
theorem z9w{pins:List (Addr×Obj)}{O:St}{H:Hp}{s:Shared}{Q:VK}{k k':Bool}(I:Inv X pins O H s)(q:Q (.bl k) H)(e:k=k'):EP X pins O Q (.bool k') s:=by
 subst e;exact⟨.bl k,H,I,rfl,q⟩
theorem zbZ:OpR X (compareOp .Lt) (rI0 λi j=>.bl (decide (i<j))):=zb3 λ_ _ _ _ _ _ _ q=>lt_int q
theorem zb7:OpR X (compareOp .LtE) (rI0 λi j=>.bl (decide (i<=j))):=zb3 λ_ _ _ _ _ _ _ q=>le_int q
theorem zbz:OpR X (compareOp .Gt) (rI0 λi j=>.bl (decide (j<i))):=zb3 λ_ _ _ _ _ _ _ q=>gt_int q
theorem zbF:OpR X (compareOp .GtE) (rI0 λi j=>.bl (decide (j<=i))):=zb3 λ_ _ _ _ _ _ _ q=>ge_int q
theorem z8Z:OpR X (compareOp .Is) (λx y H Q=>y=.non/\Q (.bl (decide (x=.non))) H):=by
 intro pins s O H x y v u Q I rx ry h;obtain⟨rfl,q⟩:=h;cases ry;refine is_none_gen (z9w I q ?_);cases x<;>first
  | (cases rx;rfl) | (obtain⟨t,rfl⟩:=rx;rfl)
theorem OpR.or{f:Value->Value->Sem Value}{r r':R2}(h:OpR X f r)(h':OpR X f r'):OpR X f (λx y H Q=>r x y H Q\/r' x y H Q):=by
 intro pins s O H x y v u Q I rx ry q;rcases q with q | q;·exact h pins s O H x y v u Q I rx ry q
 ·exact h' pins s O H x y v u Q I rx ry q
theorem z7h(b:Expr){op:CmpOp}(h:op≠.In:=by decide)(h2:op≠.NotIn:=by decide):behindInMarks op b=false:=by
 have e1:(op==CmpOp.In)=false:=by cases op<;>first | rfl | exact absurd rfl h
 have e2:(op==CmpOp.NotIn)=false:=by cases op<;>first | rfl | exact absurd rfl h2
 cases b<;>simp[behindInMarks,e1,e2]
theorem z8s{op:CmpOp}{r:R2}(ho:OpR X (compareOp op) r)(ha:PE X a ta)(hb:PE X b tb)(hm:behindInMarks op b=false):PE X (.Compare a [op] [b] pos) (tOp r ta tb):=by
 intro pins s O H Q I h;exact wpAny_Compare1 (zc3 ha hb I h λv u s2 x y H2 I2 rx ry q=>ho pins s2 O H2 x y v u Q I2 rx ry q) hm
def z9S(t:TE):TT:=λO H Q=>t O H λx H'=>∃k,x=.bl k/\Q k H'
theorem z7F{op:CmpOp}{r:R2}(ho:OpR X (compareOp op) r)(ha:PE X a ta)(hb:PE X b tb)(hm:behindInMarks op b=false):PT X (.Compare a [op] [b] pos) (z9S (tOp r ta tb)):=by
 intro pins s O H Q I h;refine wpAny_isTrue_Compare1 (thn (ha pins s O H _ I h) λv s1 ⟨x,H1,I1,r1,q1⟩=>thn (hb pins s1 O H1 _ I1 q1) λu s2 ⟨y,H2,I2,r2,q2⟩=> thn (ho pins s2 O H2 x y v u _ I2 r1 r2 q2) λc s3 ⟨z,H3,I3,r3,k,e,q3⟩=>?_) hm;subst e;cases r3;exact _aa ⟨H3,I3,q3⟩
def z6U(r r':R2)(ta tb tc:TE):TE:=λO H Q=>ta O H λx H1=>tb O H1 λy H2=>r x y H2 λz H3=>∃k,z=.bl k/\ (if k=true then tc O H3 λw' H4=>r' y w' H4 Q else Q (.bl false) H3)
theorem z6c{op op':CmpOp}{r r':R2}(ho:OpR X (compareOp op) r)(ho':OpR X (compareOp op') r')(ha:PE X a ta)(hb:PE X b tb)(hc:PE X c tc) (hm:lastMarks [op,op'] [b,c]=false:=by with_unfolding_all rfl):PE X (.Compare a [op,op'] [b,c] pos) (z6U r r' ta tb tc):=by
 intro pins s O H Q I h;refine Compare_chain (thn (ha pins s O H _ I h) λv s1 ⟨x,H1,I1,r1,q1⟩=>chain_link (thn (hb pins s1 O H1 _ I1 q1) λu s2 ⟨y,H2,I2,r2,q2⟩=> thn (ho pins s2 O H2 x y v u _ I2 r1 r2 q2) λd s3 ⟨z,H3,I3,r3,k,e,q3⟩=>?_)) hm;subst e;cases r3;refine _aa ?_;cases k with
 | false=>exact ite_ff ⟨.bl false,H3,I3,rfl,q3⟩ | true=>exact ite_tt (chain_last (thn (hc pins s3 O H3 _ I3 q3) λw' s4 ⟨z',H4,I4,r4,q4⟩=>ho' pins s4 O H4 y z' u w' Q I4 r2 r4 q4))
theorem z1h:(sizeLine:Nat)<2 ^ 63:=by rw[sizeLine_eq];decide
theorem z3B:OpR X (binaryOp .Add) (λx y H Q=>∃i j,x=.str i/\y=.str j/\i.length+j.length<=sizeLine/\Q (.str (i++j)) H):=by
 intro pins s O H x y v u Q I rx ry h;obtain⟨i,j,rfl,rfl,hz,q⟩:=h;obtain⟨t,rfl⟩:=rx;obtain⟨t',rfl⟩:=ry;exact add_str (λt' tk=>⟨.str (i++j),H,I.tok _,⟨_,rfl⟩,q⟩) hz
theorem vals1{x:V}{us:List Value}(r:yt [x] us):∃u,us=[u]/\yP x u:=by cases r with | cons r1 r2=>cases r2;exact⟨_,rfl,r1⟩
theorem vals2{x y:V}{us:List Value}(r:yt [x,y] us):∃u w',us=[u,w']/\yP x u/\yP y w':=by cases r with | cons r1 r2=> cases r2 with | cons r3 r4=>cases r4;exact⟨_,_,rfl,r1,r3⟩
theorem z4R(hc:X.calm=true):yB X (.builtin "max") (λxs H Q=>∃i j,xs=[.int i,.int j]/\Q (.int (if j > i then j else i)) H):=by
 intro pins s O H xs us Q I r h;obtain⟨i,j,rfl,q⟩:=h;obtain⟨u,w',rfl,⟨t,rfl⟩,⟨t',rfl⟩⟩:=vals2 r;refine max_two_ints (I.ok.hd hc) λh' tk k=>⟨_,H,I.kept k,?_,q⟩;by_cases hj:j > i;·rw[_f hj,_f hj];exact⟨_,rfl⟩
 ·rw[_o hj,_o hj];exact⟨_,rfl⟩
theorem z4g(hc:X.calm=true):yB X (.builtin "min") (λxs H Q=>∃i j,xs=[.int i,.int j]/\Q (.int (if j<i then j else i)) H):=by
 intro pins s O H xs us Q I r h;obtain⟨i,j,rfl,q⟩:=h;obtain⟨u,w',rfl,⟨t,rfl⟩,⟨t',rfl⟩⟩:=vals2 r;refine min_two_ints (I.ok.hd hc) λh' tk k=>⟨_,H,I.kept k,?_,q⟩;by_cases hj:j<i;·rw[_f hj,_f hj];exact⟨_,rfl⟩
 ·rw[_o hj,_o hj];exact⟨_,rfl⟩
theorem z4W:yB X (.type "int") (λxs H Q=>(∃i,xs=[.int i]/\Q (.int i) H)\/∃k,xs=[.bl k]/\Q (.int (if k then 1 else 0)) H):=by
 intro pins s O H xs us Q I r h;rcases h with⟨i,rfl,q⟩ | ⟨k,rfl,q⟩
 ·obtain⟨u,rfl,t,rfl⟩:=vals1 r;exact call_int_int ⟨.int i,H,I,⟨_,rfl⟩,q⟩
 ·obtain⟨u,rfl,r1⟩:=vals1 r;cases r1;exact call_int_bool ⟨.int (if k then 1 else 0),H,I.tok _,⟨_,rfl⟩,q⟩
end
structure zc8(h:Heap)(x dx C:Addr)(mA:Str->Option Value):Prop where
 obj:h.get? x=some (W.instObj C dx)
 ns:h.Ns1 dx mA
 ne:dx≠x
theorem z53{h:Heap}{dx:Addr}{mA:Str->Option Value}(n:h.Ns1 dx mA):∃od,h.get? dx=some od/\∀name,W.lookIn name od=some (mA name):=by
 obtain⟨o,es,ep,ho,hd,hk,_,hm⟩:=n;refine⟨o,ho,λname=>?_⟩;have e:=hm name;unfold nsFind findBy at e;rw[<- Array.find?_toList]at e;unfold W.lookIn;rw[hd];dsimp only;split
 ·rename_i y q;rw[q]at e;exact _aC some e
 ·rename_i q;rw[q]at e;have a:es.toList.any (·.refKey)=false:=by
   rw[List.any_eq_false];intro y hy;obtain⟨z,t,hkey⟩:=hk y (Array.mem_toList_iff.mp hy);simp[DictEntry.refKey,hkey]
  have a':¬ es.toList.any (·.refKey)=true:=by rw[a];exact _K
  rw[_o a'];exact _aC some e
theorem zc8.look{h:Heap}{x dx C:Addr}{mA:Str->Option Value}(I:zc8 h x dx C mA):∃od,W.InstAt h x (W.instObj C dx) C (some od)/\∀name,W.lookIn name od=some (mA name):= let ⟨od,ho,hl⟩:=z53 I.ns;⟨od,⟨I.obj,rfl,rfl,ho⟩,hl⟩
section
variable {P:Program}{w:World}{H H':Hp}{h h':Heap}{a C dx:Addr}{fs fs':List (Str×V)}
theorem z4M(hok:HOk P w H h)(e:H a=some (.ins C dx fs)):∃mA,zc8 h a dx C mA/\(∀f,zca (fs.lookup f) (mA f))/\PySem.Within mA (fs.map (·.1))/\fs.length<=1000/\H dx=some (.own a):=by
 obtain⟨d,z,ne,ob,mA,n,r,q⟩:=(show yF P w H h a (.ins C dx fs) from hok a _ e);exact⟨mA,⟨ob,n,ne⟩,r,q,z,d⟩
end
structure Cls(K:W.Frag)(C:Addr):Prop where
 pg:W.plainGet K C Str.empty=true
 hd:W.hasDictIn K C=true
 po:W.plainOver K C=true
 sa:W.findIn K (.ref C) "__setattr__"=some (some (.builtin "object.__setattr__"))
theorem Cls.get{K:W.Frag}{C:Addr}(c:Cls K C)(f:Str):W.plainGet K C f=true:=c.pg
section
variable {X:Cx}{pins:List (Addr×Obj)}{O:St}{H:Hp}{s:Shared}{A:Around}{E:Value->Shared->Prop}{Q:Value->Shared->Prop}{c:Value}{b:Bool}
inductive z23(K:W.Frag)(H:Hp):V->Value->Prop where | non:z23 K H .non (.type "NoneType") | bl (x:Bool):z23 K H (.bl x) (.type "bool") | int (i:Int):z23 K H (.int i) (.type "int") | str (x:Str):z23 K H (.str x) (.type "str") | flt (x:UInt64):z23 K H (.flt x) (.type "float") | lst {a:Addr}{xs:List V}(e:H a=some (.lst xs)):z23 K H (.ref a) (.type "list") | frz {a:Addr}{o:Obj}{xs:List V}(e:H a=some (.frz o (.lst xs))):z23 K H (.ref a) (.type "list") | tup {a:Addr}{xs:List V}(e:H a=some (.tup xs)):z23 K H (.ref a) (.type "tuple") | dK {a:Addr}{kvs:List (Key×V)}(e:H a=some (.dK kvs)):z23 K H (.ref a) (.type "dict") | dT {a:Addr}{kvs:List (List Key×V)}(e:H a=some (.dT kvs)):z23 K H (.ref a) (.type "dict") | ins {a C dx:Addr}{fs:List (Str×V)}(e:H a=some (.ins C dx fs))(cl:Cls K C)(ha:W.findIn K (.ref C) "__class__"=some (some (.builtin "object.__class__"))) (hn:W.specialIn K (.builtin "object.__class__") "__get__"=some (some (.builtin "getset_descriptor.__get__")))(htk:W.takesIn K (.builtin "object.__class__")=some true) (hm:W.mroIn K C (.type "object")=some true):z23 K H (.ref a) (.ref C)
theorem z4x {x:V} {u t:Value} (I:Inv X pins O H s) (rx:yP x u) (ty:z23 X.K H x t) (e:W.kitOne X.K t c=some b) (h:∀tk,Q (.bool b) {s with toks:=tk}): wpAny (model X.prog X.w) A (call (.builtin "isinstance") [u,c]) Q E s:=by cases ty with
 | non=>cases (show u=Value.none from rx);exact _ar W.kitx_none I.kIn True.intro e (λz=>nomatch z) h | bl y=>cases (show u=Value.bool y from rx);exact _ar W.kitx_bool I.kIn True.intro e (λz=>nomatch z) h | int i=>obtain⟨t,q⟩:=(show ∃t,u=Value.int i t from rx);cases q;exact _ar W.kitx_int I.kIn True.intro e (λz=>nomatch z) h | str y=>obtain⟨t,q⟩:=(show ∃t,u=Value.str y t from rx);cases q;exact _ar W.kitx_str I.kIn True.intro e (λz=>nomatch z) h | flt y=>obtain⟨t,q⟩:=(show ∃t,u=Value.float y t from rx);cases q;exact _ar W.kitx_float I.kIn True.intro e (λz=>nomatch z) h | @lst a xs ea=>
  cases (show u=Value.ref a from rx);obtain⟨_,_,n,_,h1⟩:=(show yF X.prog X.w H s.heap a (.lst xs) from I.hok a _ ea);exact _ar W.kitx_list I.kIn ⟨_,h1,rfl⟩ e (λz=>nomatch z) h | @frz a ob xs ea=>
  cases (show u=Value.ref a from rx);obtain⟨_,_,_,n,_,h1⟩:=(show yF X.prog X.w H s.heap a (.frz ob (.lst xs)) from I.hok a _ ea);exact _ar W.kitx_list I.kIn ⟨_,h1,rfl⟩ e (λz=>nomatch z) h | @tup a xs ea=>
  cases (show u=Value.ref a from rx);obtain⟨_,_,_,p⟩:=(show yF X.prog X.w H s.heap a (.tup xs) from I.hok a _ ea);obtain⟨o,h1,h2,_⟩:=p;exact _ar W.kitx_tuple I.kIn ⟨o,h1,h2⟩ e (λz=>nomatch z) h | @dK a kvs ea=>
  cases (show u=Value.ref a from rx);obtain⟨_,_,vs,_,p⟩:=(show yF X.prog X.w H s.heap a (.dK kvs) from I.hok a _ ea);obtain⟨o,es,ep,h1,h2,_⟩:=p;exact _ar W.kitx_dict I.kIn ⟨o,h1,h2.1⟩ e (λz=>nomatch z) h | @dT a kvs ea=>
  cases (show u=Value.ref a from rx);obtain⟨_,_,xs,_,o,es,ep,h1,h2,_⟩:=(show yF X.prog X.w H s.heap a (.dT kvs) from I.hok a _ ea);exact _ar W.kitx_dict I.kIn ⟨o,h1,h2.1⟩ e (λz=>nomatch z) h | @ins a C dx fs ea cl ha hn htk hm=>
  cases (show u=Value.ref a from rx);obtain⟨mA,Oo,_⟩:=z4M I.hok ea;obtain⟨od,J,_⟩:=Oo.look;exact _ar (W.kitx_own (cl.get _) cl.hd ha hn htk hm) I.kIn J e (λz=>nomatch z) h
end
structure qO(k:Nat)(A:Around):Prop where
 hd:A.handled=none
 dp:A.depth+3*k+5<recursionLimit
 un:A.units+16*k+200<cLine
 gd:A.guards=some []
theorem qO.mono{j k:Nat}{A:Around}(r:qO k A)(h:j<=k):qO j A:=⟨r.hd,by have:=r.dp;omega,by have:=r.un;omega,r.gd⟩
theorem qO.deeper{k:Nat}{A:Around}(r:qO (k+1) A)(env:Env):qO k (A.deeper env):= ⟨r.hd,by have:=r.dp;show A.depth+1+3*k+5<_;omega,by have:=r.un;show A.units+3+16*k+200<_;omega,r.gd⟩
theorem qO.depth{k:Nat}{A:Around}(r:qO k A):A.depth<recursionLimit:=by have:=r.dp;omega
theorem qO.units{k:Nat}{A:Around}(r:qO k A):A.units+64<cLine:=by have:=r.un;omega
def zcU:TA:=λ_ H Q=>Q [] H
def zbr(ta:TE)(tr:TA):TA:=λO H Q=>ta O H λx H1=>tr O H1 λxs H2=>Q (x::xs) H2
section
variable {X:Cx}{e:Expr}{es:List Expr}{te:TE}{t:TA}{pos:Pos}
theorem vH:PA X [] zcU:=λ_ _ _ _ H Q I h=>Calls.spliced_nil ⟨[],H,I,.nil,h⟩
theorem yC(ha:PE X e te)(hr:PA X es t)(hs:starEach (e::es) X.env=(false,eval e X.env)::starEach es X.env:=by rfl):PA X (e::es) (zbr te t):=by
 intro pos pins s O H Q I h;rw[hs];show wpAny _ _ (spliced ((false,eval e X.env)::backTo pos (starEach es X.env))) _ _ s;refine Calls.spliced_cons (thn (ha pins s O H _ I h) λu s1 ⟨x,H1,I1,r1,q1⟩=>?_);exact thn (hr pos pins s1 O H1 _ I1 q1) λus s2 ⟨xs,H2,I2,r2,q2⟩=>⟨x::xs,H2,I2,.cons r1 r2,q2⟩
def zd3(t:TA):TE:=λO H Q=>t O H λxs H1=>xs.length<=sizeLine/\∀p,H1 p=none->Q (.ref p) (upd H1 p (.tup xs))
def zcI(t:TA):TE:=λO H Q=>t O H λxs H1=>xs.length<=sizeLine/\∀p,H1 p=none->Q (.ref p) (upd H1 p (.lst xs))
theorem z6T{x1}(h:PA X es t):PE X (.Tuple es x1 pos) (zd3 t):=by
 intro pins s O H Q I hq;refine wpAny_Tuple_spliced (thn (h pos pins s O H _ I hq) λus s1 ⟨xs,H1,I1,r,z,q⟩=>⟨by rw[<- r.length];exact z,?_⟩);have hf:H1 s1.heap.objs.size=none:=I1.hok.fresh (_i _);refine⟨.ref s1.heap.objs.size,upd H1 s1.heap.objs.size (.tup xs),I1.laid (t':=s1.toks) (λb u e=>_d _ e) (_i _) ?_,rfl,q _ hf⟩;exact⟨z,us,r,⟨_,_m _ rfl,rfl,rfl,_,rfl⟩⟩
theorem z7i(h:PA X es t):PE X (.List es pos) (zcI t):=by
 intro pins s O H Q I hq;refine wpAny_List_spliced (thn (h pos pins s O H _ I hq) λus s1 ⟨xs,H1,I1,r,z,q⟩=>⟨by rw[<- r.length];exact z,?_⟩);have hf:H1 s1.heap.objs.size=none:=I1.hok.fresh (_i _);refine⟨.ref s1.heap.objs.size,upd H1 s1.heap.objs.size (.lst xs),I1.laid (t':=s1.toks) (λb u e=>_d _ e) (_i _) ?_,rfl,q _ hf⟩;exact⟨z,us,0,r,_m _ rfl⟩
end
abbrev Sp:=List V->Hp->VK->XK->Prop
abbrev CXT:=List Env->Hp->Shared->XK->Value->Shared->Prop
structure z9D(P:Program)(w:World)(K:W.Frag)(mg:Str->Option Value)(base:Heap)(A:Around)(outer:List Env)(s:Shared)(H:Hp):Prop where
 frames:A.frames=some outer
 mod:Mod K mg base
 bs:∀b o,base.get? b=some o->s.heap.get? b=some o/\H b=none
 bsz:base.objs.size<=s.heap.objs.size
 funs:s.heap.FunFrames base outer
 frf:∀b∈frs outer,H b=none
 hok:HOk P w H s.heap
 bare:AllBare s.gens
def CE(outer:List Env)(P:Program)(w:World)(H:Hp)(s:Shared)(Q:VK)(u:Value)(s':Shared):Prop:= ∃v H',s'.os=s.os/\AllBare s'.gens/\Un (frs outer) [] H H' s.heap s'.heap/\HOk P w H' s'.heap/\yP v u/\Q v H'
def CR(CX:CXT)(outer:List Env)(P:Program)(w:World)(H:Hp)(s:Shared)(Q:VK)(E:XK)(r:Result)(s':Shared):Prop:= match r with
 | .ok (.ret u)=>CE outer P w H s Q u s' | .ok _=>False | .error e=>CX outer H s E e s'
structure z0P(P:Program)(w:World)(K:W.Frag)(mg:Str->Option Value)(base:Heap)(CX:CXT)(k:Nat)(f:Addr)(fd:FuncData)(ps:List Str)(sp:Sp):Prop where
 len:∀vs H Q E,sp vs H Q E->vs.length=ps.length
 run:∀(A:Around)(outer:List Env)(s:Shared)(H:Hp)(args:Args)(us:List Value)(vs:List V)(Q:VK)(E:XK),qO k A->z9D P w K mg base A outer s H->BindsTo s fd args (ps.zip us)->yt vs us->sp vs H Q E-> codeAny (model P w) A (.call (.ref f) args) (CR CX outer P w H s Q E) s
theorem z0P.mono{P:Program}{w:World}{K:W.Frag}{mg:Str->Option Value}{base:Heap}{CX:CXT}{j k:Nat}{f:Addr}{fd:FuncData}{ps:List Str}{sp:Sp}(F:z0P P w K mg base CX j f fd ps sp)(h:j<=k): z0P P w K mg base CX k f fd ps sp:=⟨F.len,λA outer s H args us vs Q E hr=>F.run A outer s H args us vs Q E (hr.mono h)⟩
theorem z0P.imp{P:Program}{w:World}{K:W.Frag}{mg:Str->Option Value}{base:Heap}{CX:CXT}{k:Nat}{f:Addr}{fd:FuncData}{ps:List Str}{sp sp':Sp}(F:z0P P w K mg base CX k f fd ps sp) (h:∀vs H Q E,sp' vs H Q E->sp vs H Q E):z0P P w K mg base CX k f fd ps sp':= ⟨λvs H Q E q=>F.len vs H Q E (h _ _ _ _ q),λA outer s H args us vs Q E hr he hb hv hs=>F.run A outer s H args us vs Q E hr he hb hv (h _ _ _ _ hs)⟩
section
variable {X:Cx}{pins:List (Addr×Obj)}{O:St}{H:Hp}{s s':Shared}
theorem Inv.env0(I:Inv X pins O H s):z9D X.prog X.w X.K X.mg X.base X.A X.stack s H:= ⟨I.ok.frames,I.ok.mod,I.bs,_v I.ok.bsz I.sz,I.stack,I.stkFree,I.hok,I.bare⟩
theorem Inv.after {Q:VK} {u:Value} (I:Inv X pins O H s) (h:CE X.stack X.prog X.w H s Q u s'):EP X pins O Q u s':=by
 obtain⟨v,H',os,bare,un,hok,r,q⟩:=h;obtain⟨hh,g,d,t,os'⟩:=s';obtain rfl:os'=s.os:=os;exact⟨v,H',I.call (h':=hh) (g':=g) (d':=d) (t':=t) (ch:=[]) un hok bare (λb z=>absurd z (by simp)),r,q⟩
end
def z9o(sp:Sp)(dvs:List V)(E:XK)(t:TA):TE:=λO H Q=>t O H λvs H1=>sp (vs++dvs) H1 Q E
def Binds(K:W.Frag)(fd:FuncData)(ps:List Str)(ds:List Value):Prop:= ∀(s:Shared)(us:List Value),K.In s.heap->(us++ds).length=ps.length->BindsTo s fd ⟨us,[]⟩ (ps.zip (us++ds))
theorem Binds.all{K:W.Frag}{fd:FuncData}{ps:List Str}(h:∀us:List Value,us.length=ps.length->bindArgs fd ⟨us,[]⟩=pure (ps.zip us)):Binds K fd ps []:=λs us _ hl=>by
 rw[_aI]at hl ⊢;exact .of_eq (h us hl)
def Passes(CX:CXT)(X:Cx)(E:XK):Prop:=∀(pins:List (Addr×Obj))(O:St)(H:Hp)(s:Shared)(e:Value)(s':Shared),Inv X pins O H s->CX X.stack H s E e s'->X.xe e s'
section
variable {X:Cx}{CX:CXT}{k:Nat}{f C:Addr}{fd:FuncData}{ps:List Str}{sp:Sp}{dvs:List V}{ds:List Value}{E:XK}{x m:Str}{p pos apos:Pos}{e o:Expr}{es:List Expr}{ta:TE}{t:TA}
theorem z7l{pins:List (Addr×Obj)}{O:St}{H:Hp}{s:Shared}{Q:VK}{us:List Value}{vs:List V}(F:z0P X.prog X.w X.K X.mg X.base CX k f fd ps sp)(hr:qO k X.A)(hb:Binds X.K fd ps ds)(hd:yt dvs ds)(hx:Passes CX X E) (I:Inv X pins O H s)(r:yt vs us)(h:sp (vs++dvs) H Q E):wpAny (model X.prog X.w) X.A (call (.ref f) us) (EP X pins O Q) X.xe s:=by
 have r2:yt (vs++dvs) (us++ds):=r.append hd;have hl:(us++ds).length=ps.length:=by rw[<- r2.length];exact F.len _ _ _ _ h
 refine wpAny_call (_bK (F.run X.A X.stack s H ⟨us,[]⟩ (us++ds) (vs++dvs) Q E hr I.env0 (hb s us I.kIn hl) r2 h) λr s' hq=>?_);cases r with
 | error e=>exact hx pins O H s e s' I hq | ok fl=> cases fl with
  | ret u=>exact I.after hq | next=>exact False.elim hq | brk=>exact False.elim hq | cont=>exact False.elim hq
theorem z7B (F:z0P X.prog X.w X.K X.mg X.base CX k f fd ps sp) (hr:qO k X.A) (hg:Gl X x) (hm:X.mg x=some (.ref f)) (hk:W.keepIn X.K (.ref f)=true) (hb:Binds X.K fd ps ds) (hd:yt dvs ds) (hx:Passes CX X E) (ha:PA X (e::es) t) (hdb:(x==("__debug__":Str))=false:=by decide) (he:starEach (e::es) X.env=(false,eval e X.env)::starEach es X.env:=by rfl) (hpl:(backTo pos (starEach es X.env)).any (·.1)=false:=by rfl): PE X (.Call (.Name x p) (e::es) [] pos) (z9o sp dvs E t):=by
 intro pins s O H Q I h;refine _aw (ke I hg hm ?_ hdb);refine W.callWith_K (h₀:=X.base) I.ok.mod.kin hk (thn (ha pos pins s O H _ I h) λus s1 ⟨vs,H1,I1,r,q⟩=>⟨I1.kIn,?_⟩) he hpl;exact z7l F hr hb hd hx I1 r q
end
structure zC(N P:List Str)(sc:Scope):Prop where
 kind:sc.kind=.function
 co:sc.isCoroutine=false
 gen:sc.isGenerator=false
 nd:N.Nodup
 pre:N.take P.length=P
 par:∀x∈P,sc.names.lookup x=some .local\/sc.names.lookup x=some .cell
 nofree:∀y∈sc.names,y.2≠.free
theorem z1r{kindOf:Str->Option NameKind}{x:Str}:∀{binds:List (Str×Value)}{m:Str->Option Value},(∀v,(x,v)∉binds)->bindL kindOf binds m x=m x
 | [],_,_=>rfl | (n,v)::r,m,h=>by
  unfold bindL;rw[z1r λw hw=>h w (_n _ hw)];split
  ·have:x≠n:=by rintro rfl;exact h v _B
   simp[this]
  ·rfl
theorem z1Z{kindOf:Str->Option NameKind}{x:Str}:∀{binds:List (Str×Value)}{m:Str->Option Value},(∀v,(x,v)∉binds)->bindC kindOf binds m x=m x
 | [],_,_=>rfl | (n,v)::r,m,h=>by
  unfold bindC;rw[z1Z λw hw=>h w (_n _ hw)];split;·rfl
  ·have:x≠n:=by rintro rfl;exact h v _B
   simp[this]
theorem z16{kindOf:Str->Option NameKind}{x:Str}{v:Value}:∀{P:List Str}{vs:List Value}{i:Nat}{m:Str->Option Value},P.Nodup->P[i]? = some x->vs[i]? = some v->kindOf x=some .local-> bindL kindOf (P.zip vs) m x=some v
 | [],_,_,_,_,h,_,_=>by simp at h | _::_,[],_,_,_,_,h,_=>by simp at h | p::P,w::vs,0,m,nd,h1,h2,hk=>by
  simp at h1 h2;subst h1;subst h2;show bindL kindOf ((p,w)::P.zip vs) m p=_;unfold bindL;rw[z1r λv hv=>(_a5.mp nd).1 (_a6 hv).1,_f hk];simp | p::P,w::vs,i+1,m,nd,h1,h2,hk=>by
  show bindL kindOf ((p,w)::P.zip vs) m x=_;unfold bindL;exact z16 (i:=i) (_a5.mp nd).2 (by simpa using h1) (by simpa using h2) hk
theorem z1V{kindOf:Str->Option NameKind}{x:Str}{v:Value}:∀{P:List Str}{vs:List Value}{i:Nat}{m:Str->Option Value},P.Nodup->P[i]? = some x->vs[i]? = some v->kindOf x≠some .local-> bindC kindOf (P.zip vs) m x=some v
 | [],_,_,_,_,h,_,_=>by simp at h | _::_,[],_,_,_,_,h,_=>by simp at h | p::P,w::vs,0,m,nd,h1,h2,hk=>by
  simp at h1 h2;subst h1;subst h2;show bindC kindOf ((p,w)::P.zip vs) m p=_;unfold bindC;rw[z1Z λv hv=>(_a5.mp nd).1 (_a6 hv).1,_o hk];simp | p::P,w::vs,i+1,m,nd,h1,h2,hk=>by
  show bindC kindOf ((p,w)::P.zip vs) m x=_;unfold bindC;exact z1V (i:=i) (_a5.mp nd).2 (by simpa using h1) (by simpa using h2) hk
def start(N:List Str)(vs:List V):St:=vs.map some++List.replicate (N.length-vs.length) none
def jK(CX:CXT)(P:Program)(w:World)(K:W.Frag)(mg:Str->Option Value)(base:Heap)(N:List Str)(qual:Str)(scope:Scope)(f:Addr)(cd:Value)(A:Around)(outer:List Env)(s:Shared)(H:Hp)(E:XK):Cx where
 prog:=P;w:=w;K:=K;mg:=mg;base:=base;A:=A.deeper (envOfC qual scope s.heap.objs.size f cd);N:=N;s₀:=s;H₀:=H;env:=envOfC qual scope s.heap.objs.size f cd;outer:=outer;stack:=envOfC qual scope s.heap.objs.size f cd::outer;ex:=[];calm:=A.handled.isNone;fn:=λ_=>true;pn:=[];xe:=λe s'=>wpAny (model P w) (A.deeper (envOfC qual scope s.heap.objs.size f cd)) (leaving (envOfC qual scope s.heap.objs.size f cd) e) (λ_ s''=>CX outer H s E e s'') (λe' s''=>CX outer H s E e' s'') s'
theorem je{sc:Scope}{n:Nat}{x:Str}(h:sc.names.lookup x=some .cell):∃c,(cellsFrom n sc.names []).lookup x=some c:=by
 have q:=_bw sc.names n [] (.inl h);exact Option.isSome_iff_exists.mp q
theorem z1m{CX:CXT}{P:Program}{w:World}{K:W.Frag}{mg:Str->Option Value}{base:Heap}{N ps:List Str}{qual:Str}{scope:Scope}{f:Addr}{cd:Value}{A:Around}{outer:List Env}{s s1:Shared}{H:Hp}{E:XK}{us:List Value}{vs:List V} (S:zC N ps scope)(e0:z9D P w K mg base A outer s H)(hl:vs.length=ps.length)(r:yt vs us) (x:InCallC s s.heap.objs.size (bindL (envOfC qual scope s.heap.objs.size f cd).kindOf (ps.zip us) λ_=>none) (cellsFrom (s.heap.objs.size+1) scope.names []) (bindC (envOfC qual scope s.heap.objs.size f cd).kindOf (ps.zip us) λ_=>none) s1): Inv (jK CX P w K mg base N qual scope f cd A outer s H E) [] (start N vs) H s1:=by
 have hpl:ps.length<=N.length:=by have:=_aC List.length S.pre;rw[_aE]at this;omega
 obtain⟨h1,tk,rfl,hk⟩:=x.done;have noA:∀b:Addr,b∉(jK CX P w K mg base N qual scope f cd A outer s H E).ex:=λb z=>absurd (show b∈([]:List Addr) from z) (by simp);refine⟨⟨e0.mod,S.kind,rfl,rfl,_i _,λy z c h1 h2=>?_,λy hy=>?_,λy c _ h=>?_,λh=>Option.isNone_iff_eq_none.mp h,Around.frames_deeper e0.frames,.inr ⟨rfl,rfl⟩,λb z=>absurd z (noA b),e0.bs,e0.bsz,λb _ _=>noA b,λb z=>absurd z (noA b),e0.funs,e0.frf⟩, rfl,e0.bare,Un.kept hk,⟨_,x.toInCall.ns,λi y v h1 h2 h3=>?_⟩,λy c h=>⟨_,x.cell y c h⟩,e0.hok.fresh (_i _),λy c h=>?_,λp hp=>absurd (show p∈([]:List (Addr×Obj)) from hp) (by simp),e0.hok.kept hk,?_⟩;·exact name_of_addr x.apart (_E h1) (_E h2)
 ·have hy:scope.names.lookup y=some .cell\/scope.names.lookup y=some .free:=hy;rcases hy with hy | hy;·exact je hy
  ·exact absurd rfl (S.nofree _ (_E hy))
 ·exact _bI (x.above y c (_E h))
 ·have hi:i<vs.length:=by
   unfold start at h2;by_cases hi:i<vs.length;·exact hi
   ·rw[List.getElem?_append_right (by simpa using hi)]at h2;rw[_as]at h2;split at h2<;>cases h2
  have ha:vs[i]? = some v:=by
   unfold start at h2;rw[_p (by simpa using hi),_S]at h2;cases e:vs[i]? with
   | none=>rw[e]at h2;cases h2 | some a=>rw[e]at h2;cases h2;rfl
  obtain⟨u,hu,rv⟩:=r.get ha;have hp:ps[i]? = some y:=by rw[<- S.pre,_W (by omega)];exact h1
  have ndP:ps.Nodup:=by rw[<- S.pre];exact S.nd.sublist (_bp _ _)
  refine⟨u,rv,?_⟩;rcases S.par y (_r hp) with k | k;·exact .inl ⟨k,z16 ndP hp hu k⟩
  ·obtain⟨c,e⟩:=je (n:=s.heap.objs.size+1) k;refine .inr ⟨.inl k,c,e,?_⟩;have q:=x.cell y c e;rw[z1V ndP hp hu (by show scope.names.lookup y≠_;rw[k];decide)]at q;exact q
 ·exact e0.hok.fresh (_bI (x.above y c (_E h)))
 ·unfold start;show _=N.length;rw[_aj,_R,List.length_replicate];omega
theorem z93 {CX:CXT} {P:Program} {w:World} {K:W.Frag} {mg:Str->Option Value} {base:Heap} {k:Nat} {f:Addr} {name qual:Str} {params:Arguments} {body:List Stmt} {scope:Scope} {dV kV doc pm cdv ct oc:Value} {an od:Option Addr} {osl:Array (Option Value)} {N ps:List Str} {sp:Sp} (lk:K.lookup f=some ⟨oc,od,.func (W.fnOf name qual params body scope dV kV doc pm an cdv ct),osl⟩) (hcd:W.codeIn K cdv qual=true) (S:zC N ps scope) (len:∀vs H Q E,sp vs H Q E->vs.length=ps.length) (hbody:∀(A:Around) (outer:List Env) (s:Shared) (H:Hp) (vs:List V) (Q:VK) (E:XK),qO k (A.deeper (envOfC qual scope s.heap.objs.size f cdv))->sp vs H Q E-> ∃t,PSs (jK CX P w K mg base N qual scope f cdv A outer s H E) body t/\t {nx:=λ_ H'=>Q .non H',rt:=Q} (start N vs) H): z0P P w K mg base CX (k+1) f (W.fnOf name qual params body scope dV kV doc pm an cdv ct) ps sp:=by
 refine⟨len,λA outer s H args us vs Q E hr e0 hb r hsp=>?_⟩;have hl:=len _ _ _ _ hsp;have KX:K.In s.heap:=e0.mod.kin.keeps λb o e=>(e0.bs b o e).1;have lim:s.heap.NoLimit:=e0.mod.nolimit.keeps λb o e=>(e0.bs b o e).1;have hkind:∀y∈ps.zip us,scope.names.lookup y.1=some .local\/(scope.names.lookup y.1=some .cell/\((cellsFrom (s.heap.objs.size+1) scope.names []).lookup y.1).isSome=true):=λ⟨n,v⟩ hy=>by
  rcases S.par n (_a6 hy).1 with q | q;·exact .inl q
  ·exact .inr ⟨q,_bw _ _ _ (.inl q)⟩
 refine codeAny_call_function hr.depth (KX _ _ lk) rfl S.co S.gen rfl (W.codeRec_of KX hcd) (hb _ _ _ _ ?_);refine wpAny_newFunctionEnv_cells S.kind hkind λenv he s1 x=>?_;subst he;refine⟨lim.keeps x.toInCall.keep,codeAny_func ?_⟩;obtain⟨t,ht,hq⟩:=hbody A outer s H vs Q E (hr.deeper _) hsp;have I:Inv (jK CX P w K mg base N qual scope f cdv A outer s H E) [] (start N vs) H s1:=z1m S e0 hl r x;refine _J (ht [] s1 (start N vs) H _ I hq) (λfl s' hs=>?_) λe s' hs=>hs;have fin:∀{O':St} {H':Hp} {v:V} {u:Value},Inv (jK CX P w K mg base N qual scope f cdv A outer s H E) [] O' H' s'->yP v u->Q v H'->CE outer P w H s Q u s':= λ{O' H' v u} J rv q=>⟨v,H',J.os,J.bare,J.base,J.hok,rv,q⟩;cases fl with
 | ret u=>
  obtain⟨v,O',H',J,rv,q⟩:=hs;exact fin J rv q | next=>
  obtain⟨O',H',J,q⟩:=hs;exact fin (v:=V.non) (u:=Value.none) J rfl q | brk=>
  obtain⟨_,_,_,q⟩:=hs;exact False.elim q | cont=>
  obtain⟨_,_,_,q⟩:=hs;exact False.elim q
section
variable {X:Cx}{x:Str}{p pos:Pos}{e:Expr}{es:List Expr}{t:TA}{id T:String}{r:List V->Hp->VK->Prop}
def tCB(r:List V->Hp->VK->Prop)(t:TA):TE:=λO H Q=>t O H λvs H1=>r vs H1 Q
theorem uP (hc:yB X (.builtin id) r) (hg:Gl X x) (hm:X.mg x=none) (hv:bootBuiltins x=some (.builtin id)) (ha:PA X (e::es) t) (hn:x≠"__name__":=by decide) (hdb:(x==("__debug__":Str))=false:=by decide) (he:starEach (e::es) X.env=(false,eval e X.env)::starEach es X.env:=by rfl) (hpl:(backTo pos (starEach es X.env)).any (·.1)=false:=by rfl):PE X (.Call (.Name x p) (e::es) [] pos) (tCB r t):=by
 intro pins s O H Q I h;refine _aw (z1P I hg hm hv ?_ hn hdb);exact PyProof.Rows.callWith_builtin1 (thn (ha pos pins s O H _ I h) λus s1 ⟨vs,H1,I1,r1,q1⟩=>hc pins s1 O H1 vs us Q I1 r1 q1) he hpl
theorem z56 (hc:yB X (.type T) r) (hg:Gl X x) (hm:X.mg x=none) (hv:bootBuiltins x=some (.type T)) (ha:PA X (e::es) t) (hn:x≠"__name__":=by decide) (hdb:(x==("__debug__":Str))=false:=by decide) (he:starEach (e::es) X.env=(false,eval e X.env)::starEach es X.env:=by rfl) (hpl:(backTo pos (starEach es X.env)).any (·.1)=false:=by rfl):PE X (.Call (.Name x p) (e::es) [] pos) (tCB r t):=by
 intro pins s O H Q I h;refine _aw (z1P I hg hm hv ?_ hn hdb);exact _aA (thn (ha pos pins s O H _ I h) λus s1 ⟨vs,H1,I1,r1,q1⟩=>hc pins s1 O H1 vs us Q I1 r1 q1) he hpl
end
end L2
namespace HT
section
open PySem.SeqAt
open PySem.AutoSeq1 (wpAny_loadPart')
open PySem.MeetsSeq PySem.MeetsSeq2 PySem.MeetsSeq3
end
section
variable {prog:Program}{w:World}{A:Around}{E:Value->Shared->Prop}{s:Shared}
theorem z8c {t b:Addr} {vs ws:List Value} {Q:Value->Shared->Prop} (ht:IsTup s.heap t vs.toArray) (hb:IsTup s.heap b ws.toArray) (hv:vs≠[]) (h1:ws=[]->Q (.ref t) s) (h2:ws≠[]->Q (.ref s.heap.objs.size) {s with heap:=s.heap.push {cls:=.type "tuple",data:=.seq (vs++ws).toArray}}) (hsz:vs.length+ws.length<=sizeLine):wpAny (model prog w) A (binaryOp .Add (.ref t) (.ref b)) Q E s:=by
 obtain⟨⟨cls,dd,data,sl⟩,ho,hc,n,hd⟩:=id ht;obtain⟨⟨cls2,dd2,data2,sl2⟩,ho2,hc2,n2,hd2⟩:=id hb;simp only at hc hd hc2 hd2;subst hc hd hc2 hd2;have e:vs.toArray++ws.toArray=(vs++ws).toArray:=by simp
 by_cases hw:ws=[]
 ·exact concat_meets ⟨_,ho,rfl⟩ ⟨_,ho2,rfl⟩ _bx seq_tuple_add _aR _aP (_aH _ _) (tuple_addW1 t b vs.toArray ws.toArray n n2 dd dd2 sl sl2 (by simpa using hv) (by simp[hw])) ⟨ho,ho2,h1 hw⟩
 ·refine concat_meets ⟨_,ho,rfl⟩ ⟨_,ho2,rfl⟩ _bx seq_tuple_add _aR _aP (_aH _ _) (tuple_addW2 t b vs.toArray ws.toArray n n2 dd dd2 sl sl2 (by simpa using hv) (by simpa using hw) (by rw[_j,_j];exact hsz)) ⟨ho,ho2,?_⟩;rw[e];exact h2 hw
def sIx(n d:Nat):Option Int->Nat
 | none=>d | some v=>if v<0 then (v+(n:Int)).toNat else min v.toNat n
theorem z2Z(n d:Nat):sIx n d none=d:=rfl
theorem z4E(n d k:Nat):sIx n d (some (k:Int))=min k n:=by
 show (if (k:Int)<0 then ((k:Int)+(n:Int)).toNat else min (k:Int).toNat n)=min k n;rw[_o (by omega),_aS]
theorem z9P(n d:Nat)(hd:d<=n)(o:Option Int):sIx n d o<=n:=by cases o with
 | none=>exact hd | some v=>
  show (if v<0 then (v+(n:Int)).toNat else min v.toNat n)<=n;by_cases hv:v<0;·rw[_f hv];omega
  ·rw[_o hv];exact Nat.min_le_right _ _
theorem z4k(v:Int)(n d:Nat):(if v<0 then max (v+(n:Int)) 0 else min v (n:Int))=((sIx n d (some v):Nat):Int):=by
 show (if v<0 then max (v+(n:Int)) 0 else min v (n:Int))=(((if v<0 then (v+(n:Int)).toNat else min v.toNat n):Nat):Int);by_cases hv:v<0;·simp only[_f hv];omega
 ·simp only[_o hv];omega
theorem z3C(lo hi:Option Int)(n:Nat):Builtin.Slice.sliceAdjust lo hi 1 (n:Int)=(((sIx n 0 lo:Nat):Int),(sIx n n hi:Int)):=by
 have h1:¬ ((1:Int)<0):=by omega
 unfold Builtin.Slice.sliceAdjust;simp only[h1,if_false];refine Prod.ext ?_ ?_;·cases lo with
  | none=>rfl | some v=>exact z4k v n 0
 ·cases hi with
  | none=>rfl | some v=>exact z4k v n n
theorem z3R (i j:Nat):Builtin.Slice.slicePlaces (i:Int) (j:Int) 1=j-i:=by
 unfold Builtin.Slice.slicePlaces;have h1:(1:Int) > 0:=by omega
 simp only[h1,_H,Int.ediv_one];split<;>omega
theorem kO{v:Value}{o:Option Int}{Q:Option Int->Shared->Prop}(p:IsPart v o)(h:Q o s):wpAny (model prog w) A (Builtin.Slice.slicePartIndex v) Q E s:=by cases p with
 | none=>exact slicePart_none h | int i t=>exact slicePart_int h
theorem vw{sl:Addr}{vl vu:Value}{lo hi:Option Int}{n:Nat}{Q:Int×Int×Nat->Shared->Prop}(hs:s.heap.IsSliceOf sl vl vu .none)(pl:IsPart vl lo)(pu:IsPart vu hi) (h:Q (((sIx n 0 lo:Nat):Int),1,sIx n n hi-sIx n 0 lo) s):wpAny (model prog w) A (Builtin.Slice.sliceApplied (.ref sl) (pure (n:Int))) Q E s:=by
 obtain⟨os,hos,hcs,hds⟩:=id hs;unfold Builtin.Slice.sliceApplied Builtin.Slice.sliceFields;refine _a (_a (_T hos hds (x:=vl) rfl (_a (_T hos hds (x:=vu) rfl (_a (_T hos hds (x:=.none) rfl (_k ?_)))))));refine _a (slicePart_none ?_);show wpAny _ _ (if ((1:Int)==0)=true then _ else _) _ _ s;rw[_o (by decide)];refine _a (kO pl (_a (kO pu (_a (_k ?_)))));show wpAny _ _ (match Builtin.Slice.sliceAdjust lo hi 1 (n:Int) with | (lo,hi)=>pure (lo,(1:Int),Builtin.Slice.slicePlaces lo hi 1)) _ _ s;rw[z3C lo hi n];show wpAny _ _ (pure (((sIx n 0 lo:Nat):Int),(1:Int),Builtin.Slice.slicePlaces ((sIx n 0 lo:Nat):Int) (sIx n n hi:Int) 1)) _ _ s;rw[z3R];exact _k h
theorem z66(xs:Array Value)(i k:Nat):((List.range k).filterMap λ(m:Nat)=>xs[((i:Int)+(m:Int)*1).toNat]?).toArray=((xs.toList.drop i).take k).toArray:=by
 have e:(λ(m:Nat)=>xs[((i:Int)+(m:Int)*1).toNat]?)=λm=>xs[i+m]? := by
  funext m;have:((i:Int)+(m:Int)*1).toNat=i+m:=by omega
  rw[this]
 rw[e];have:=pick_run xs i k;rw[List.filterMap_map]at this;have e2:((λx=>xs[x]?) ∘ λx=>i+x)=λm=>xs[i+m]? := rfl;rw[e2]at this;rw[this]
theorem uT {t sl:Addr} {items:Array Value} {vl vu:Value} {lo hi:Option Int} {Q:Value->Shared->Prop} (ht:IsTup s.heap t items) (hs:s.heap.IsSliceOf sl vl vu .none) (pl:IsPart vl lo) (pu:IsPart vu hi) (hw:¬ (sIx items.size 0 lo=0/\sIx items.size items.size hi=items.size)) (h:Q (.ref s.heap.objs.size) {s with heap:=s.heap.push {cls:=.type "tuple",data:=.seq ((items.toList.drop (sIx items.size 0 lo)).take (sIx items.size items.size hi-sIx items.size 0 lo)).toArray}}) (hsz:items.size<=sizeLine):wpAny (model prog w) A (getItem (.ref t) (.ref sl)) Q E s:=by
 have htake:sizeOk (.seq ((items.toList.drop (sIx items.size 0 lo)).take (sIx items.size items.size hi-sIx items.size 0 lo)).toArray):=by
  show ((items.toList.drop (sIx items.size 0 lo)).take (sIx items.size items.size hi-sIx items.size 0 lo)).toArray.size<=sizeLine;rw[_j,_aE,_by,_ac];omega
 have hj:sIx items.size items.size hi<=items.size:=z9P _ _ (_i _) hi;obtain⟨os,hos,hcs,hds⟩:=id hs;have hTs:s.TypeIs (.ref sl) "slice":=⟨os,hos,hcs⟩;unfold getItem;try with_reducible refine _a0 ?_
 first | refine _a (_k ?_) | skip
 refine _a (wpAny_sequenceKey ht.typeIs (by decide) ?_);refine _a (_Y (name:=Str.ofString "__getitem__") ht.typeIs _C (_at _C ht.typeIs entry_tuple_getitem ?_ (args_tuple_getitem _ _)));show wpAny _ _ (Builtin.Tuple.tupleItemsOf (.ref t) >>= _) _ _ s;refine _a (tupleItemsOf_ ht ?_);refine _a (wpAny_typeOf hTs ?_);rw[_f (by decide)];refine _a (vw hs pl pu ?_);have hno:¬ ((((sIx items.size 0 lo:Nat):Int)==0&&(1:Int)==1&&(sIx items.size items.size hi-sIx items.size 0 lo)==items.size)=true):=by
  intro q;rw[_q,_q]at q;have q1:((sIx items.size 0 lo:Nat):Int)=0:=eq_of_beq q.1.1;have q2:sIx items.size items.size hi-sIx items.size 0 lo=items.size:=eq_of_beq q.2;exact hw ⟨by omega,by omega⟩
 show wpAny _ _ (if (((sIx items.size 0 lo:Nat):Int)==0&&(1:Int)==1&&(sIx items.size items.size hi-sIx items.size 0 lo)==items.size)=true then _ else _) _ _ s;rw[_o hno,z66];first
  | exact _a (m:=Builtin.Tuple.tupleExact _) (_ah (_k ⟨_,rfl,_k h⟩) htake) | exact _a (m:=Builtin.Tuple.tupleExact _) (_ah (_a (_k (_k ⟨_,rfl,_k h⟩))) htake) | exact _a (_a (m:=Builtin.Tuple.tupleExact _) (_ah (_k (_k ⟨_,rfl,_k h⟩)) htake)) | exact _a (_a (m:=Builtin.Tuple.tupleExact _) (_ah (_k ⟨_,rfl,_k h⟩) htake))
end
end HT
namespace L2
abbrev TO:=St->Hp->(Option Int->Hp->Prop)->Prop
def PO(X:Cx)(e:Option Expr)(t:TO):Prop:= ∀(pins:List (Addr×Obj))(s:Shared)(O:St)(H:Hp)(Q:Option Int->Hp->Prop),Inv X pins O H s->t O H Q-> wpAny (model X.prog X.w) X.A (evalPart e X.env) (λu s'=>∃o H',Inv X pins O H' s'/\IsPart u o/\Q o H') X.xe s
def z8y:TO:=λ_ H Q=>Q none H
def zbk(t:TE):TO:=λO H Q=>t O H λx H1=>∃i,x=.int i/\Q (some i) H1
section
variable {X:Cx}{e:Expr}{te:TE}{lo hi:Option Expr}{tl th:TO}{pos p2:Pos}
theorem z2j:PO X none z8y:=by
 intro pins s O H Q I h;rw[evalPart_none];exact _k ⟨none,H,I,.none,h⟩
theorem z8b(h:PE X e te):PO X (some e) (zbk te):=by
 intro pins s O H Q I hw;rw[evalPart_some];refine thn (h pins s O H _ I hw) λu s1 ⟨x,H1,I1,r1,q1⟩=>?_;obtain⟨i,rfl,q⟩:=q1;obtain⟨t,rfl⟩:=r1;exact⟨some i,H1,I1,.int i t,q⟩
def SlR(X:Cx)(r:V->Option Int->Option Int->Hp->VK->Prop):Prop:= ∀(pins:List (Addr×Obj))(s:Shared)(O:St)(H:Hp)(x:V)(v vl vu:Value)(lo hi:Option Int)(sl:Addr)(Q:VK),Inv X pins O H s->yP x v->s.heap.IsSliceOf sl vl vu .none->IsPart vl lo->IsPart vu hi->r x lo hi H Q-> ∃T id,typeLookup (.type T) "__getitem__"=pure (some (.builtin id))/\s.TypeIs v T/\wpAny (model X.prog X.w) X.A (getItem v (.ref sl)) (EP X pins O Q) X.xe s
theorem SlR.or{r r':V->Option Int->Option Int->Hp->VK->Prop}(h:SlR X r)(h':SlR X r'):SlR X (λx lo hi H Q=>r x lo hi H Q\/r' x lo hi H Q):=by
 intro pins s O H x v vl vu lo hi sl Q I rx hs pl pu q;rcases q with q | q;·exact h pins s O H x v vl vu lo hi sl Q I rx hs pl pu q
 ·exact h' pins s O H x v vl vu lo hi sl Q I rx hs pl pu q
def tSl(r:V->Option Int->Option Int->Hp->VK->Prop)(te:TE)(tl th:TO):TE:=λO H Q=>te O H λx H1=>tl O H1 λl H2=>th O H2 λu H3=>r x l u H3 Q
theorem z0m{r:V->Option Int->Option Int->Hp->VK->Prop}(hr:SlR X r)(he:PE X e te)(hl:PO X lo tl)(hu:PO X hi th):PE X (.Subscript e (.Slice lo hi none p2) pos) (tSl r te tl th):=by
 intro pins s O H Q I h;refine Subscript_ (thn (he pins s O H _ I h) λv s1 ⟨x,H1,I1,r1,q1⟩=>?_);refine wpAny_Slice (thn (hl pins s1 O H1 _ I1 q1) λvl s2 ⟨l,H2,I2,pl,q2⟩=>thn (hu pins s2 O H2 _ I2 q2) λvu s3 ⟨u,H3,I3,pu,q3⟩=>?_);rw[evalPart_none];refine _k ?_;have I4:Inv X pins O H3 {s3 with heap:=s3.heap.push {cls:=.type "slice",data:=.fields #[vl,vu,.none]}}:=I3.kept (t':=s3.toks) λb ob q=>_d _ q;obtain⟨T,id,hT,ht,hg⟩:=hr pins {s3 with heap:=s3.heap.push {cls:=.type "slice",data:=.fields #[vl,vu,.none]}} O H3 x v vl vu l u s3.heap.objs.size Q I4 r1 (Heap.IsSliceOf.new ..) pl pu q3;show wpAny (model X.prog X.w) X.A (subscriptTail e (.Slice lo hi none p2) v (.ref s3.heap.objs.size)) (EP X pins O Q) X.xe {s3 with heap:=s3.heap.push {cls:=.type "slice",data:=.fields #[vl,vu,.none]}};exact tail_any (ops:=[.ref s3.heap.objs.size,v]) ht hT hg (by with_unfolding_all rfl)
def z6S(xs:List V)(lo hi:Option Int):List V:=(xs.drop (HT.sIx xs.length 0 lo)).take (HT.sIx xs.length xs.length hi-HT.sIx xs.length 0 lo)
theorem ju(xs:List V)(lo hi:Option Int):(z6S xs lo hi).length<=xs.length:=by
 unfold z6S;rw[_aE,_by];omega
def zdf(K:W.Frag):V->Option Int->Option Int->Hp->VK->Prop:=λx lo hi H Q=>∃a xs,x=.ref a/\SqT K H a xs/\ ¬ (HT.sIx xs.length 0 lo=0/\HT.sIx xs.length xs.length hi=xs.length)/\∀p,H p=none->Q (.ref p) (upd H p (.tup (z6S xs lo hi)))
theorem z9G:SlR X (zdf X.K):=by
 intro pins s O H x v vl vu lo hi sl Q I rx hs pl pu h;obtain⟨a,xs,rfl,hx,hw,q⟩:=h;cases rx;obtain⟨its,r,ht,hz⟩:=I.tuple hx;have hlen:its.toArray.size=xs.length:=by rw[_j];exact r.length.symm
 refine⟨"tuple",_,_C.lookup,ht.typeIs,?_⟩;refine HT.uT ht hs pl pu (by rw[hlen];exact hw) ?_ (by rw[hlen];exact hz);rw[hlen];refine⟨.ref s.heap.objs.size,_,I.laid (t':=s.toks) (o:=.tup (z6S xs lo hi)) (λb ob q=>_d _ q) (_i _) ?_,rfl,q _ (I.hok.fresh (_i _))⟩;exact⟨_v (ju xs lo hi) hz,_,(r.drop (HT.sIx xs.length 0 lo)).take (HT.sIx xs.length xs.length hi-HT.sIx xs.length 0 lo),z5p.new _ _⟩
def zbn(K:W.Frag):R2:=λx y H Q=>∃a b xs ys,x=.ref a/\y=.ref b/\SqT K H a xs/\SqT K H b ys/\xs≠[]/\xs.length+ys.length<=sizeLine/\ (ys=[]->Q (.ref a) H)/\(ys≠[]->∀p,H p=none->Q (.ref p) (upd H p (.tup (xs++ys))))
theorem yt.nil_iff{xs:List V}{us:List Value}(r:yt xs us):us=[] ↔ xs=[]:=by cases r with
 | nil=>simp | cons _ _=>simp
theorem z7E:OpR X (binaryOp .Add) (zbn X.K):=by
 intro pins s O H x y v u Q I rx ry h;obtain⟨a,b,xs,ys,rfl,rfl,ha,hb,hx,hz,q1,q2⟩:=h;cases rx;cases ry;obtain⟨its,r1,p1,_⟩:=I.tuple ha;obtain⟨its2,r2,p2,_⟩:=I.tuple hb;refine HT.z8c p1 p2 (λz=>hx (r1.nil_iff.mp z)) (λz=>⟨.ref a,H,I,rfl,q1 (r2.nil_iff.mp z)⟩) (λz=>?_) (by rw[<- r1.length,<- r2.length];exact hz);refine⟨.ref s.heap.objs.size,_,I.laid (t':=s.toks) (o:=.tup (xs++ys)) (λb ob q=>_d _ q) (_i _) ?_,rfl,q2 (λw=>z (r2.nil_iff.mpr w)) _ (I.hok.fresh (_i _))⟩;exact⟨by rw[_aj];exact hz,_,r1.append r2,z5p.new _ _⟩
end
def ixN(n:Nat)(i:Int):Option Nat:=if 0<=i then (if i<n then some i.toNat else none) else if -(n:Int)<=i then some (i+n).toNat else none
def atI{α:Type}(xs:List α)(i:Int):Option α:=(ixN xs.length i).bind λj=>xs[j]?
theorem z4s{n:Nat}{i:Int}{j:Nat}(h:ixN n i=some j):seqIndex? i n=some j/\j<n/\-(n:Int)<=i/\i<n:=by
 unfold ixN at h;by_cases h0:0<=i
 ·rw[_f h0]at h;by_cases h1:i<n
  ·rw[_f h1]at h;have e:i.toNat=j:=_s h;exact⟨by rw[seqIndex_of h0 h1,e],by omega,by omega,h1⟩
  ·rw[_o h1]at h;cases h
 ·rw[_o h0]at h;by_cases h1:-(n:Int)<=i
  ·rw[_f h1]at h;have e:(i+n).toNat=j:=_s h;exact⟨by rw[seqIndex_neg (by omega) h1,e],by omega,h1,by omega⟩
  ·rw[_o h1]at h;cases h
theorem z29{α:Type}{xs:List α}{i:Int}{v:α}(h:atI xs i=some v):∃j,seqIndex? i xs.length=some j/\xs[j]? = some v/\j<xs.length/\-(xs.length:Int)<=i/\i<xs.length:=by
 unfold atI at h;cases e:ixN xs.length i with
 | none=>rw[e]at h;cases h | some j=>
  rw[e]at h;obtain⟨h1,h2,h3,h4⟩:=z4s e;exact⟨j,h1,h,h2,h3,h4⟩
def z2n(b:Expr):Prop:=∀o i,subscripted b false o i=operate [o,i] (getItem o i)
def IxR(X:Cx)(r:R2):Prop:= ∀(value slice:Expr)(pins:List (Addr×Obj))(s:Shared)(O:St)(H:Hp)(x y:V)(v u:Value)(Q:VK),Inv X pins O H s->yP x v->yP y u->r x y H Q-> subscripted slice false v u=operate [v,u] (getItem v u)->wpAny (model X.prog X.w) X.A (subscriptTail value slice v u) (EP X pins O Q) X.xe s
def MtR (X:Cx) (id:String) (r:V->List V->Hp->VK->Prop):Prop:= ∀(pins:List (Addr×Obj)) (s:Shared) (O:St) (H:Hp) (x:V) (xs:List V) (v:Value) (us:List Value) (Q:VK),Inv X pins O H s->yP x v->yt xs us->r x xs H Q-> wpAny (model X.prog X.w) X.A (call (.builtin id) (v::us)) (EP X pins O Q) X.xe s
section
variable {X:Cx}{a b:Expr}{ta tb:TE}{pos:Pos}
theorem IxR.or{r r':R2}(h:IxR X r)(h':IxR X r'):IxR X (λx y H Q=>r x y H Q\/r' x y H Q):=by
 intro value slice pins s O H x y v u Q I rx ry q hs;rcases q with q | q;·exact h value slice pins s O H x y v u Q I rx ry q hs
 ·exact h' value slice pins s O H x y v u Q I rx ry q hs
theorem z9M{r:R2}(hr:IxR X r)(ha:PE X a ta)(hb:PE X b tb)(hs:z2n b):PE X (.Subscript a b pos) (tOp r ta tb):=by
 intro pins s O H Q I h;exact Subscript_ (zc3 ha hb I h λv u s2 x y H2 I2 rx ry q=>hr a b pins s2 O H2 x y v u Q I2 rx ry q (hs _ _))
def zdb(K:W.Frag):R2:=λx y H Q=>∃p xs i v,x=.ref p/\y=.int i/\SqL K H p xs/\atI xs i=some v/\Q v H
def zcE(K:W.Frag):R2:=λx y H Q=>∃p xs i v,x=.ref p/\y=.int i/\SqT K H p xs/\atI xs i=some v/\Q v H
def zcF:R2:=λx y H Q=>∃z i c,x=.str z/\y=.int i/\z.length<=sizeLine/\atI z.cps.toList i=some c/\Q (.str ⟨#[c]⟩) H
theorem z7M:IxR X (zdb X.K):=by
 intro value slice pins s O H x y v u Q I rx ry h hs;obtain⟨p,xs,i,z,rfl,rfl,hq,he,q⟩:=h;cases rx;obtain⟨t,rfl⟩:=ry;obtain⟨its,r,pl,hz⟩:=I.list hq;obtain⟨j,h1,h2,h3,h4,h5⟩:=z29 he;obtain⟨w,ew,rw'⟩:=r.get h2;have hl:=r.length;have hn:=z1h;have fin:EP X pins O Q w s:=⟨z,H,I,rw',q⟩;by_cases h0:0<=i
 ·have hj:i.toNat=j:=by
   rw[seqIndex_of h0 h5]at h1;exact _s h1
  exact item_listR pl.isList h0 (by omega) (by rw[hj];simpa using ew) fin hs
 ·have hj:(i+(its.toArray.size:Int)).toNat=j:=by
   rw[seqIndex_neg (by omega) h4]at h1;rw[_j,<- hl];exact _s h1
  exact subscriptTail_builtinR (x:=w) pl.isList.typeIs slot_list_getitem.lookup (wpAny_getItem_list_neg (Q:=λr s'=>r=w/\EP X pins O Q r s') pl.isList (by omega) (by rw[_j]<;>omega) (by omega) (by rw[hj];simpa using ew) ⟨rfl,fin⟩) hs
theorem za5:IxR X (zcE X.K):=by
 intro value slice pins s O H x y v u Q I rx ry h hs;obtain⟨p,xs,i,z,rfl,rfl,hq,he,q⟩:=h;cases rx;obtain⟨t,rfl⟩:=ry;obtain⟨its,r,pl,hz⟩:=I.tuple hq;obtain⟨j,h1,h2,h3,h4,h5⟩:=z29 he;obtain⟨w,ew,rw'⟩:=r.get h2;have hl:=r.length;have hn:=z1h;have fin:EP X pins O Q w s:=⟨z,H,I,rw',q⟩;exact subscriptTail_builtinR (x:=w) pl.typeIs slot_tuple_getitem.lookup (getItem_tuple (j:=j) (Q:=λr s'=>r=w/\EP X pins O Q r s') pl (by omega) (by omega) (by rw[_j,<- hl];exact h1) (by simpa using ew) ⟨rfl,fin⟩) hs
theorem z9V:IxR X zcF:=by
 intro value slice pins s O H x y v u Q I rx ry h hs;obtain⟨z,i,c,rfl,rfl,hz,he,q⟩:=h;obtain⟨t,rfl⟩:=rx;obtain⟨t',rfl⟩:=ry;obtain⟨j,h1,h2,h3,h4,h5⟩:=z29 he;have hl:z.cps.toList.length=z.length:=by simp[Str.length]
 rw[hl]at h1 h4 h5;have hn:=z1h;exact tail_any (_aM s z t) slot_str_getitem.lookup (getItem_str (c:=c) (by
  have e1:decide (i < -(2 ^ 63:Int))=false:=_M (by omega);have e2:decide (i ≥ 2 ^ 63)=false:=_M (by omega);rw[e1,e2,Bool.or_false]) (by rw[h1];simpa using h2) ⟨.str ⟨#[c]⟩,H,I.tok _,⟨_,rfl⟩,q⟩) hs
theorem z3A (its:List Value) (n j:Nat) (u:Value):Obj.mapSeq (·.setIfInBounds j u) {cls:=.type "list",data:=.seq its.toArray n}={cls:=.type "list",data:=.seq (its.set j u).toArray n}:=by simp[Obj.mapSeq]
theorem Inv.lst{pins:List (Addr×Obj)}{O:St}{H:Hp}{s:Shared}{p:Addr}{xs:List V}(I:Inv X pins O H s)(h:H p=some (.lst xs)): ∃(its:List Value)(n:Nat),yt xs its/\s.heap.get? p=some {cls:=.type "list",data:=.seq its.toArray n}/\xs.length<=sizeLine:=by
 obtain⟨z,its,n,r,e⟩:=I.hok p _ h;exact⟨its,n,r,e,z⟩
theorem Inv.lstUpd {pins:List (Addr×Obj)} {O:St} {H:Hp} {s:Shared} {p:Addr} {xs ys:List V} {its its':List Value} {n n':Nat} {f:Obj->Obj} (I:Inv X pins O H s) (h:H p=some (.lst xs)) (ho:s.heap.get? p=some {cls:=.type "list",data:=.seq its.toArray n}) (hf:f {cls:=.type "list",data:=.seq its.toArray n}={cls:=.type "list",data:=.seq its'.toArray n'}) (r:yt ys its') (hz:ys.length<=sizeLine) (t:Nat): Inv X pins O (upd H p (.lst ys)) {s with heap:=s.heap.update p f,toks:=t}:=by
 have e:(s.heap.update p f).get? p=some {cls:=.type "list",data:=.seq its'.toArray n'}:=by rw[Heap.get?_update_self f ho (by rw[hf]<;>rfl),hf]
 refine I.write (x:=p) (e:=p) (by rw[h];trivial) (.inl rfl) (λb u hb q=>(Heap.get?_update_other _ _ (_bo hb)).trans q) ⟨_,e⟩ ?_;exact⟨hz,its',n',r,e⟩
def zbe:V->V->V->Hp->(Hp->Prop)->Prop:=λo i v H Q=>∃p xs k j,o=.ref p/\i=.int k/\H p=some (.lst xs)/\ixN xs.length k=some j/\Q (upd H p (.lst (xs.set j v)))
theorem set_list:zcv X zbe:=by
 intro pins s O H o i v ov iv u Q I ro ri rv h;obtain⟨p,xs,k,j,rfl,rfl,hp,hj,q⟩:=h;cases ro;obtain⟨t,rfl⟩:=ri;obtain⟨its,n,r,ho,hz⟩:=I.lst hp;obtain⟨h1,h2,h3,h4⟩:=z4s hj;have hl:=r.length;have hn:=z1h;have I':Inv X pins O (upd H p (.lst (xs.set j v))) {s with heap:=s.heap.update p (Obj.mapSeq (·.setIfInBounds j u))}:= I.lstUpd hp ho (z3A its n j u) (r.set rv j) (by rw[List.length_set];exact hz) s.toks;by_cases h0:0<=k
 ·have hk:k.toNat=j:=by
   rw[seqIndex_of h0 h4]at h1;exact _s h1
  exact W.ki_setAt ho h0 (by omega) (by rw[_j,<- hl];exact h4) (by rw[hk];exact⟨_,I',q⟩)
 ·have hk:(k+(its.toArray.size:Int)).toNat=j:=by
   rw[seqIndex_neg (by omega) h3]at h1;rw[_j,<- hl];exact _s h1
  exact W.ki_setBack ho (by omega) (by rw[_j,<- hl];exact h3) (by omega) (by rw[hk];exact⟨_,I',q⟩)
theorem z1v(lo hi:Option Int)(n:Nat):(sliceBounds lo hi none n).1=((HT.sIx n 0 lo:Nat):Int)/\(sliceBounds lo hi none n).2.1=(HT.sIx n n hi:Int)/\(sliceBounds lo hi none n).2.2=1:=by
 refine⟨?_,?_,rfl⟩;·cases lo with
  | none=>simp[sliceBounds,HT.sIx] | some i=>
   simp only[sliceBounds,HT.sIx,Option.getD_none,show (1:Int) > 0 by decide,_H];by_cases h:i<0;·simp only[h,_H]<;>omega
   ·simp only[h,if_false]<;>omega
 ·cases hi with
  | none=>simp[sliceBounds,HT.sIx] | some i=>
   simp only[sliceBounds,HT.sIx,Option.getD_none,show (1:Int) > 0 by decide,_H];by_cases h:i<0;·simp only[h,_H]<;>omega
   ·simp only[h,if_false]<;>omega
theorem z00(its:List Value)(lo hi:Option Int):slicePick its.toArray lo hi none=((its.drop (HT.sIx its.length 0 lo)).take (HT.sIx its.length its.length hi-HT.sIx its.length 0 lo)).toArray:=by
 obtain⟨h1,h2,h3⟩:=z1v lo hi its.toArray.size;unfold slicePick;rw[h1,h2,h3];simp only[sliceRange_one,pick_run,_j]<;>rfl
def zcZ(K:W.Frag):V->Option Int->Option Int->Hp->VK->Prop:=λx lo hi H Q=>∃a xs,x=.ref a/\SqL K H a xs/\∀p,H p=none->Q (.ref p) (upd H p (.lst (z6S xs lo hi)))
theorem z7s:SlR X (zcZ X.K):=by
 intro pins s O H x v vl vu lo hi sl Q I rx hs pl pu h;obtain⟨a,xs,rfl,hx,q⟩:=h;cases rx;obtain⟨its,r,ht,hz⟩:=I.list hx;have hlen:=r.length;refine⟨"list",_,slot_list_getitem.lookup,ht.isList.typeIs,?_⟩;refine wpAny_getItem_list_slice ht.isList hs pl pu .none (by simp) ?_ (by rw[_j]<;>omega);rw[z00,<- hlen];refine⟨.ref s.heap.objs.size,_,I.laid (t':=s.toks) (o:=.lst (z6S xs lo hi)) (λb ob q=>_d _ q) (_i _) ?_,rfl,q _ (I.hok.fresh (_i _))⟩;exact⟨_v (ju xs lo hi) hz,_,0,(r.drop (HT.sIx xs.length 0 lo)).take (HT.sIx xs.length xs.length hi-HT.sIx xs.length 0 lo),_m _ rfl⟩
def kz:V->Bool
 | .non=>true | .bl _=>true | .int _=>true | .str _=>true | _=>false
def eqV:V->V->Bool
 | .non,.non=>true | .bl a,.bl b=>a==b | .bl a,.int b=>(if a then 1 else 0)==b | .int a,.bl b=>a==(if b then 1 else 0) | .int a,.int b=>a==b | .str a,.str b=>a==b | _,_=>false
theorem z9L{A:Around}{s:Shared}{y x:V}{u v:Value}(ry:yP y u)(rx:yP x v)(fy:kz y=true)(fx:kz x=true):SeqAt.EqAt A s u v (eqV y x):=by cases y with
 | non=>
  cases ry;cases x with
  | non=>cases rx;exact SeqAt.EqAt.same _ | bl b=>cases rx;exact SeqAt.EqAt.none_bool b | int b=>obtain⟨t,rfl⟩:=rx;exact SeqAt.EqAt.none_int b t | str b=>obtain⟨t,rfl⟩:=rx;exact SeqAt.EqAt.none_str b t | _=>exact absurd (show false=true from fx) _K
 | bl a=>
  cases ry;cases x with
  | non=>cases rx;exact SeqAt.EqAt.bool_none a | bl b=>cases rx;exact SeqAt.EqAt.bool_bool a b | int b=>obtain⟨t,rfl⟩:=rx;exact SeqAt.EqAt.bool_int a b t | str b=>obtain⟨t,rfl⟩:=rx;exact SeqAt.EqAt.bool_str a b t | _=>exact absurd (show false=true from fx) _K
 | int a=>
  obtain⟨t',rfl⟩:=ry;cases x with
  | non=>cases rx;exact SeqAt.EqAt.int_none a t' | bl b=>cases rx;exact SeqAt.EqAt.int_bool a t' b | int b=>obtain⟨t,rfl⟩:=rx;exact SeqAt.EqAt.int_int a t' b t | str b=>obtain⟨t,rfl⟩:=rx;exact SeqAt.EqAt.int_str a t' b t | _=>exact absurd (show false=true from fx) _K
 | str a=>
  obtain⟨t',rfl⟩:=ry;cases x with
  | non=>cases rx;exact SeqAt.EqAt.str_none a t' | bl b=>cases rx;exact SeqAt.EqAt.str_bool a t' b | int b=>obtain⟨t,rfl⟩:=rx;exact SeqAt.EqAt.str_int a t' b t | str b=>obtain⟨t,rfl⟩:=rx;exact SeqAt.EqAt.str_str a t' b t | _=>exact absurd (show false=true from fx) _K
 | _=>exact absurd (show false=true from fy) _K
def eqU(x:V)(u:Value):Bool:=match u with
 | .none=>eqV .non x | .bool b=>eqV (.bl b) x | .int i _=>eqV (.int i) x | .str z _=>eqV (.str z) x | _=>false
theorem z6Z{x y:V}{u:Value}(r:yP y u)(f:kz y=true):eqU x u=eqV y x:=by cases y with
 | non=>cases r;rfl | bl b=>cases r;rfl | int i=>obtain⟨t,rfl⟩:=r;rfl | str z=>obtain⟨t,rfl⟩:=r;rfl | _=>exact absurd (show false=true from f) _K
theorem z2l{x:V}:∀{xs:List V}{us:List Value},yt xs us->xs.all kz=true->us.any (eqU x)=xs.any λy=>eqV y x
 | _,_,.nil,_=>rfl | y::xs,u::us,.cons r t,f=>by
  rw[_a1,_q]at f;rw[List.any_cons,List.any_cons,z6Z r f.1,z2l t f.2]
theorem z01{A:Around}{s:Shared}{x:V}{v:Value}(rx:yP x v)(fx:kz x=true):∀{xs:List V}{us:List Value},yt xs us->xs.all kz=true->∀u∈us,SeqAt.EqAt A s u v (eqU x u)
 | _,_,.nil,_=>λu hu=>by cases hu | y::xs,u::us,.cons r t,f=>λu' hu=>by
  rw[_a1,_q]at f;rcases _l.mp hu with rfl | hu;·rw[z6Z r f.1];exact z9L r rx f.1 fx
  ·exact z01 rx fx t f.2 u' hu
def inV(x:V)(xs:List V):Bool:=xs.any λy=>eqV y x
def rIn(K:W.Frag)(neg:Bool):R2:=λx y H Q=>∃p xs,y=.ref p/\(SqL K H p xs\/SqT K H p xs)/\kz x=true/\xs.all kz=true/\Q (.bl (if neg then !inV x xs else inV x xs)) H
theorem z0V:OpR X (compareOp .NotIn) (rIn X.K true):=by
 intro pins s O H x y v u Q I rx ry h;obtain⟨p,xs,rfl,hq,fx,fs,q⟩:=h;cases ry;rcases hq with hq | hq
 ·obtain⟨its,r,pl,hz⟩:=I.list hq;refine SeqAt.notIn_listAt (eqU x) pl.isList (λw hw=>z01 rx fx r fs w (by simpa using hw)) ⟨.bl _,H,I,rfl,?_⟩;rw[show its.toArray.any (eqU x)=its.any (eqU x) by simp,z2l r fs];exact q
 ·obtain⟨its,r,pl,hz⟩:=I.tuple hq;refine SeqAt.notIn_tupleAt (eqU x) pl (λw hw=>z01 rx fx r fs w (by simpa using hw)) ⟨.bl _,H,I,rfl,?_⟩;rw[show its.toArray.any (eqU x)=its.any (eqU x) by simp,z2l r fs];exact q
theorem z1f:yB X (.builtin "len") (λxs H Q=>∃p ys,xs=[.ref p]/\(SqL X.K H p ys\/SqT X.K H p ys)/\Q (.int ys.length) H):=by
 intro pins s O H xs us Q I r h;obtain⟨p,ys,rfl,hq,q⟩:=h;obtain⟨u,rfl,rx⟩:=vals1 r;cases rx;have hn:=z1h;rcases hq with hq | hq
 ·obtain⟨its,r',pl,hz⟩:=I.list hq;have hlen:=r'.length;exact Calls.call_len_list pl.isList (by simp only[_j]<;>omega) ⟨.int ys.length,H,I.tok _,⟨s.toks+1,by rw[_j,hlen]⟩,q⟩
 ·obtain⟨its,r',pl,hz⟩:=I.tuple hq;have hlen:=r'.length;exact len_tuple pl (by simp only[_j]<;>omega) ⟨.int ys.length,H,I.tok _,⟨s.toks+1,by rw[_j,hlen]⟩,q⟩
theorem z1Y:yB X (.type "list") (λxs H Q=>∃p ys,xs=[.ref p]/\(SqL X.K H p ys\/SqT X.K H p ys)/\∀l,H l=none->Q (.ref l) (upd H l (.lst ys))):=by
 intro pins s O H xs us Q I r h;obtain⟨p,ys,rfl,hq,q⟩:=h;obtain⟨u,rfl,rx⟩:=vals1 r;cases rx;have fin:∀(its:List Value),yt ys its->ys.length<=sizeLine->∀(h':Heap) (c':Nat),(∀b o',s.heap.get? b=some o'->h'.get? b=some o')-> h'.get? s.heap.objs.size=some {cls:=.type "list",dict:=none,data:=.seq its.toArray c',slots:=#[]}->EP X pins O Q (.ref s.heap.objs.size) {s with heap:=h'}:=λits r' hz h' c' kp e=> ⟨.ref s.heap.objs.size,_,I.laid (t':=s.toks) kp (_i _) (show yF X.prog X.w _ h' _ (.lst ys) from⟨hz,its,c',r',e⟩),rfl,q _ (I.hok.fresh (_i _))⟩;rcases hq with hq | hq
 ·obtain⟨its,r',pl,hz⟩:=I.list hq;have hlen:=r'.length;obtain⟨o,ho,hc,n,hd⟩:=pl.isList;exact call_list_seq p (.inl rfl) ho hc hd (λh' c' kp e=>fin its r' hz h' c' kp e) (by simp only[_j]<;>omega)
 ·obtain⟨its,r',pl,hz⟩:=I.tuple hq;have hlen:=r'.length;obtain⟨o,ho,hc,n,hd⟩:=pl;exact call_list_seq p (.inr rfl) ho hc hd (λh' c' kp e=>fin its r' hz h' c' kp e) (by simp only[_j]<;>omega)
theorem z0D:yB X (.type "tuple") (λxs H Q=>∃p ys,xs=[.ref p]/\((SqL X.K H p ys/\∀l,H l=none->Q (.ref l) (upd H l (.tup ys)))\/(SqT X.K H p ys/\Q (.ref p) H))):=by
 intro pins s O H xs us Q I r h;obtain⟨p,ys,rfl,h⟩:=h;obtain⟨u,rfl,rx⟩:=vals1 r;cases rx;rcases h with⟨hq,q⟩ | ⟨hq,q⟩
 ·obtain⟨its,r',pl,hz⟩:=I.list hq;have hlen:=r'.length;refine call_tuple_list pl.isList (λh' kp=>?_) (by simp only[_j]<;>omega);have I1:Inv X pins O H {s with heap:=h'}:=I.kept (t':=s.toks) kp;have I2:Inv X pins O (upd H h'.objs.size (.tup ys)) {s with heap:=h'.push {cls:=.type "tuple",data:=.seq its.toArray}}:= I1.laid (t':=s.toks) (λb o e=>_d _ e) (_i _) (show yF X.prog X.w _ _ _ (.tup ys) from⟨hz,its,r',z5p.new _ _⟩);exact⟨.ref h'.objs.size,_,I2,rfl,q _ (I1.hok.fresh (_i _))⟩
 ·obtain⟨its,r',pl,hz⟩:=I.tuple hq;exact call_tuple_same pl ⟨.ref p,H,I,rfl,q⟩
def tyV(K:W.Frag)(T:String)(x:V)(H:Hp):Prop:=match x with
 | .str _=>T="str" | .int _=>T="int" | .ref p=>(T="list"/\∃xs,SqL K H p xs)\/(T="tuple"/\∃o,K.lookup p=some o/\o.cls=.type "tuple"/\o.dict=none)\/ (T="dict"/\((∃kvs,H p=some (.dK kvs))\/∃kvs,H p=some (.dT kvs)))\/(T="set"/\∃S n,H p=some (.set S n)) | _=>False
theorem z9u{pins:List (Addr×Obj)}{O:St}{H:Hp}{s:Shared}{T:String}{x:V}{v:Value}(I:Inv X pins O H s)(r:yP x v)(ty:tyV X.K T x H): s.TypeIs v T/\∀a,v=.ref a->∃ob,s.heap.get? a=some ob/\ob.dict=none:=by cases x with
 | str z=>
  obtain⟨t,rfl⟩:=r;cases (show T="str" from ty);exact⟨_aM s z t,λ_ e=>nomatch e⟩ | int i=>
  obtain⟨t,rfl⟩:=r;cases (show T="int" from ty);exact⟨typeIs_int s i t,λ_ e=>nomatch e⟩ | ref p=>
  cases r;rcases ty with⟨rfl,xs,hq⟩ | ⟨rfl,o,hk,hc,hd⟩ | ⟨rfl,hk⟩ | ⟨rfl,S,n,hk⟩
  ·obtain⟨its,_,pl,_⟩:=I.list hq;refine⟨pl.isList.typeIs,λa e=>?_⟩;cases e;obtain⟨o,n,e,c,hd,_⟩:=pl;exact⟨o,e,hd⟩
  ·refine⟨⟨o,I.kIn p o hk,hc⟩,λa e=>?_⟩;cases e;exact⟨o,I.kIn _ o hk,hd⟩
  ·have z:∃o,s.heap.get? p=some o/\o.ExactDict:=by
    rcases hk with⟨kvs,hk⟩ | ⟨kvs,hk⟩
    ·obtain⟨_,_,_,_,o,_,_,e,ex,_⟩:=I.hok p _ hk;exact⟨o,e,ex⟩
    ·obtain⟨_,_,_,_,o,_,_,e,ex,_⟩:=I.hok p _ hk;exact⟨o,e,ex⟩
   obtain⟨o,e,ex⟩:=z;refine⟨⟨o,e,ex.1⟩,λa e2=>?_⟩;cases e2;exact⟨o,e,ex.2.1⟩
  ·obtain⟨o,_,_,_,e,ex,_⟩:=I.hok p _ hk;refine⟨⟨o,e,ex.1⟩,λa e2=>?_⟩;cases e2;exact⟨o,e,ex.2.1⟩ | _=>exact False.elim ty
def tBM(K:W.Frag)(T:String)(r:V->List V->Hp->VK->Prop)(to:TE)(t:TA):TE:=λO H Q=>to O H λx H1=>tyV K T x H1/\t O H1 λxs H2=>r x xs H2 Q
variable {o e:Expr}{es:List Expr}{to:TE}{t:TA}{name:Str}{apos cpos:Pos}{T id:String}{r:V->List V->Hp->VK->Prop}
theorem z6t (pa:PlainAttrs T) (slot:Slot T name id) (hty:typeOf (.builtin id)=pure (.type "method_descriptor")) (hm:MtR X id r) (ho:PE X o to) (ha:PA X (e::es) t) (hbase:attributeBase o name X.env (eval o X.env)=eval o X.env:=by rfl) (hfew:((backTo cpos (starEach (e::es) X.env)).all (λx=>!x.1)&&(backToKw cpos (keywordEach [] X.env)).all (λx=>x.1.isSome) && decide ((e::es).length+([]:List Keyword).length+(if ([]:List Keyword).isEmpty then 0 else 1)<30))=true:=by rfl) (hline:(apos.endLine==cpos.line)=true:=by rfl) (hs:starEach (e::es) X.env=(false,eval e X.env)::starEach es X.env:=by rfl) (hplain:(backTo cpos (starEach es X.env)).any (·.1)=false:=by rfl): PE X (.Call (.Attribute o name apos) (e::es) [] cpos) (tBM X.K T r to t):=by
 intro pins s O H Q I h;refine wpAny_Call_method_late hbase hfew hline rfl (thn (ho pins s O H _ I h) λv s1 ⟨x,H1,I1,r1,ty,q1⟩=>?_);obtain⟨h1,h2⟩:=z9u I1 r1 ty;refine⟨T,id,pa,slot,hty,h1,h2,?_⟩;have hA:=ha cpos pins s1 O H1 _ I1 q1;rw[hs]at hA ⊢;refine Calls.callWith_builtin (by show (false||(backTo cpos (starEach es X.env)).any (·.1))=false;rw[hplain]<;>rfl) (Calls.evalArgs_plain ?_);exact thn hA λus s2 ⟨vs,H2,I2,r2,q2⟩=>hm pins s2 O H2 x vs v us Q I2 r1 r2 q2
end
def MtM (X:Cx) (id:String) (r:V->List V->Hp->VK->Prop):Prop:= ∀(pins:List (Addr×Obj)) (s:Shared) (O:St) (H:Hp) (x:V) (xs:List V) (v:Value) (us:List Value) (Q:VK),Inv X pins O H s->yP x v->yt xs us->r x xs H Q-> wpAny (model X.prog X.w) X.A (call (.builtin id) (v::us)) (EP X pins O Q) X.xe s
theorem yt.one:∀{x:V}{us:List Value},yt [x] us->∃u,us=[u]/\yP x u | _,_,.cons r .nil=>⟨_,rfl,r⟩
section
variable {X:Cx}{pins:List (Addr×Obj)}{O:St}{H:Hp}{s:Shared}{l b:Addr}{xs ys zs:List V}
theorem Inv.lset {its its':List Value} {n:Nat} {f:Array Value->Array Value} {t':Nat} (I:Inv X pins O H s) (hH:H l=some (.lst xs)) (e:s.heap.get? l=some {cls:=.type "list",data:=.seq its.toArray n}) (hf:f its.toArray=its'.toArray) (hv:yt ys its') (hz:ys.length<=sizeLine): Inv X pins O (upd H l (.lst ys)) {s with heap:=s.heap.update l (Obj.mapSeq f),toks:=t'}:=by
 have q:=PySem.IsL.update e f;rw[hf]at q;refine I.write (x:=l) (e:=l) (by rw[hH];exact trivial) (.inl rfl) (λb' u hb hu=>(Heap.get?_update_other s.heap (Obj.mapSeq f) (_bo hb)).trans hu) ⟨_,q⟩ ?_;exact⟨hz,its',_,hv,q⟩
theorem Inv.lnew {its:List Value} {t':Nat} (I:Inv X pins O H s) (hv:yt ys its) (hz:ys.length<=sizeLine): Inv X pins O (upd H s.heap.objs.size (.lst ys)) {s with heap:=s.heap.push {cls:=.type "list",data:=.seq its.toArray},toks:=t'}:= I.laid (λ_ _ q=>_d _ q) (_i _) ⟨hz,its,0,hv,_m _ rfl⟩
theorem Inv.fresh(I:Inv X pins O H s):H s.heap.objs.size=none:=I.hok.fresh (_i _)
theorem Inv.lstM(I:Inv X pins O H s)(hH:H l=some (.lst xs)):xs.length<=sizeLine/\∃(its:List Value)(n:Nat),yt xs its/\xs.length=its.length/\s.heap.get? l=some {cls:=.type "list",data:=.seq its.toArray n}:=by
 obtain⟨z,its,n,r,e⟩:=I.hok l _ hH;exact⟨z,its,n,r,r.length,e⟩
end
section
variable {X:Cx}
def z86:V->List V->Hp->VK->Prop:=λx vs H Q=>∃l xs y,x=.ref l/\vs=[y]/\H l=some (.lst xs)/\xs.length<sizeLine/\Q .non (upd H l (.lst (xs++[y])))
theorem z4T:MtM X "list.append" z86:=by
 intro pins s O H x vs v us Q I rx rv h;obtain⟨l,xs,y,rfl,rfl,hH,hz,q⟩:=h;cases rx;obtain⟨u,rfl,ru⟩:=rv.one;obtain⟨z,its,n,r,hl,e⟩:=I.lstM hH;refine _aY F.slot_list_append ⟨_,e,rfl⟩ F.entry_list_append (F.args_list_append_2 _ _) (PySem.list_append l its.toArray n u (by rw[_j];omega)) ⟨e,?_⟩;refine⟨.non,_,I.lset (its':=its++[u]) hH e (by simp) (r.append (.cons ru .nil)) ?_,rfl,q⟩;rw[_aj,List.length_singleton];omega
end
end L2
namespace Att
open PySem.W PySem.Calls
theorem jY{P:Params}{h:Heap}:∀(ns:List Int)(vs:List Value),WellAll P h vs (ns.map WData.int)->IntsAre vs ns:=by
 intro ns;induction ns with
 | nil=>
  intro vs w;rw[List.map_nil]at w;cases w;exact .nil | cons n ns ih=>
  intro vs w;rw[_N]at w;cases w with | cons a b=>
   cases a;exact .cons _ _ (ih _ b)
theorem z5h {l:OpenLaw} {n:Nat} (hn:l.most=some n) {P:Params} {h:Heap} {args:List WData} {wR:List Value} (hpre:l.row.toRowW.claim.pre args=true) (hwl:WellAll P h wR args): ∃a vs ns,wR=[Value.ref a]/\args=[WData.list (ns.map WData.int)]/\h.get? a=some {cls:=.type "list",data:=.seq vs.toArray}/\IntsAre vs ns/\ns.length<=n:=by
 have hsh:WShape.hasAll [] args [.list .int]=true:=(pre_splitW hpre).1;have hc:l.pre.holds [] {args:=args}=true:=(pre_splitW hpre).2;obtain⟨d,r,rfl,h1,h2⟩:=hasAllW_cons hsh;obtain rfl:=hasAllW_nil h2;obtain⟨xs,rfl,h3⟩:=hasW_list h1;obtain⟨ns,rfl⟩:=items_int h3;have hlen:ns.length<=n:=by
  unfold OpenLaw.pre at hc;have h4:(WTm.not (.lt (.lit (.int (n:Int))) (.len (.arg 0)))).holds [] {args:=[.list (ns.map .int)]}=true:=by
   have h4:=(holds_andW hc).1;rw[hn]at h4;exact h4
  have h5:=condW_of h4 (w_not (w_lt w_lit (w_len_list (w_arg rfl))));rw[_R]at h5;refine Nat.le_of_not_lt λq=>?_;have q':(n:Int)<(ns.length:Int):=by omega
  first
   | (rw[_au q']at h5;exact absurd h5 (by decide)) | (simp at h5;omega)
 cases hwl with | cons w1 w2=>
  cases w2;cases w1 with | list ho hall=>exact⟨_,_,ns,rfl,rfl,ho,jY ns _ hall,hlen⟩
theorem z4U (l:OpenLaw) (args:List WData):l.row.toRowW.claim.post args (.bool true) args=true:= postW_of (r:=l.row.toRowW) (X:=(true==true)) (show WShape.has [] (.bool true) .bool=true by first | rfl | decide | simp[WShape.has,WShape.arms,WShape.armsAll]) (show (WTm.eq .res (.lit (.bool true))).value [] {args:=args,res:=some (.bool true),after:=args}=some (.bool (true==true)) from w_eq_bool (w_res rfl) w_lit) rfl
theorem z2h{l:OpenLaw}{n:Nat}{q:Program}{loose:List Str}{XP:(Str->Option Value)->Heap->Prop}{YP:World->Heap->Prop}{d:DefRec} (hn:l.most=some n)(hdf:d.params.defaults=[]) (call:∀(w:World)(s₀ s₁:Shared)(mg mb:Str->Option Value)(fa:Addr)(o:Obj)(pm cd doc:Value)(a:Addr)(vs:List Value)(ns:List Int), Ground q loose [] XP w s₀ mg mb s₁.heap->YP w s₁.heap-> s₁.heap.get? fa=some o->o.data=.func (docDef d.name d.params d.body d.scope pm cd doc)->s₁.heap.CodeRec cd d.name->mg d.name=some (.ref fa)-> s₁.heap.get? a=some {cls:=.type "list",data:=.seq vs.toArray}->IntsAre vs ns->ns.length<=n->s₁.gens=#[]-> codeAny (model l.prog w) callerA (.call (.ref fa) ⟨[.ref a],[]⟩) (λr s'=>r=.ok (.ret (.bool true))/\OldK s₁.heap s'.heap/\s'.os=s₁.os/\AllBare s'.gens) s₁): WalkO q loose XP YP l.row.toRowW d [] (λf vs=>PySem.call f vs):=by
 intro w s₀ s₁ mg mb G Yy fa o pm cd doc dV kV ho hd hcd hD hmg hg args wR as hpre hlay hrd hwl hlo;obtain rfl:dV=.none:=Dflts.none hD hdf;obtain rfl:kV=.none:=Dflts.noKw hD;obtain⟨a,vs,ns,rfl,rfl,hobj,hints,hlen⟩:=z5h hn hpre hwl;refine enter_call (_bK (call w s₀ s₁ mg mb fa o pm cd doc a vs ns G Yy ho (fd_plain hd) hcd hmg hobj hints hlen hg) λr s' hq=>?_);obtain⟨rfl,h2,h3,h4⟩:=hq;exact⟨.inl ⟨.bool true,.bool true,[],rfl,λ_=>rfl,.bool true,z4U l _,λ_=>⟨List.Pairwise.nil,λ_ hm=>(nomatch hm)⟩⟩,h2,h3,h4⟩
section
variable {prog:Program}{w:World}{A:Around}{E:Value->Shared->Prop}{s:Shared}{K:Frag}
def ledger(h:Heap)(L d:Addr):List (Addr×Obj):=(List.range h.objs.size).filterMap λa=>if a=L\/a=d then none else (h.get? a).map λo=>(a,o)
end
end Att
namespace L2
theorem z0S:∀{vs:List Value}{ns:List Int},IntsAre vs ns->yt (ns.map V.int) vs
 | _,_,.nil=>.nil | _,_,.cons n t h=>.cons ⟨t,rfl⟩ (z0S h)
def zbX(H:Hp):Prop:=∀b,H b=none\/∃o xs,H b=some (.frz o (.lst xs))
theorem z63 {P:Program} {w:World} {K:W.Frag} {mg mb:Str->Option Value} {CX:CXT} {k:Nat} {fa a:Addr} {fd:FuncData} {x:Str} {sp:Sp} {s₁:Shared} {vs:List Value} {ns:List Int} (KX:K.In s₁.heap) (hns:s₁.heap.Ns mainGlobals mg) (hb:s₁.heap.Ns builtinsNs mb) (hbb:∀x:Str,x≠"__name__"->mb x=bootBuiltins x) (hlim:s₁.heap.NoLimit) (hg:s₁.gens=#[]) (ha:s₁.heap.get? a=some {cls:=.type "list",data:=.seq vs.toArray}) (hi:IntsAre vs ns) (hl:ns.length<=sizeLine) (hr:qO k callerA) (F:∀base:Heap,K.In base->base.Ns mainGlobals mg->z0P P w K mg base CX k fa fd [x] sp) (hbind:∀(s:Shared) (u:Value),BindsTo s fd ⟨[u],[]⟩ [(x,u)]) (hsp:∀H:Hp,zbX H->SqL K H a (ns.map V.int)->sp [.ref a] H (λv _=>v=.bl true) λ_ _ _=>False) (hCX:∀H e s',CX [] H s₁ (λ_ _ _=>False) e s'->False): codeAny (model P w) callerA (.call (.ref fa) ⟨[.ref a],[]⟩) (λr s'=>r=.ok (.ret (.bool true))/\OldK s₁.heap s'.heap/\s'.os=s₁.os/\AllBare s'.gens) s₁:=by
 have rv:=z0S hi;have lenV:=hi.length;have core:∀H:Hp,zbX H->SqL K H a (ns.map V.int)->HOk P w H s₁.heap->(∀b,H b≠none->b=a)->(H a≠none->K.lookup a=none)-> codeAny (model P w) callerA (.call (.ref fa) ⟨[.ref a],[]⟩) (λr s'=>r=.ok (.ret (.bool true))/\OldK s₁.heap s'.heap/\s'.os=s₁.os/\AllBare s'.gens) s₁:=by
  intro H hO hS hok hA hK;have base_of:∀{b:Addr} {o:Obj},s₁.heap.get? b=some o->H b=none->(z5Z s₁.heap H).get? b=some o:=λe n=>z5Y e n;have noA:∀{b:Addr} {o:Obj} {es:Array DictEntry} {ep:Nat},s₁.heap.get? b=some o->o.data=.dict es ep->H b=none:=λ{b o es ep} e d=>by cases q:H b with
   | none=>rfl | some u=>
    have e':b=a:=hA b (by rw[q];simp);subst e';rw[ha]at e;cases e;have d':Data.seq vs.toArray _=Data.dict es ep:=d;cases d'
  have nsK:∀{b:Addr} {m:Str->Option Value},s₁.heap.Ns b m->(z5Z s₁.heap H).Ns b m:=λ{b m} ⟨o,es,ep,e,d,r⟩=>⟨o,es,ep,base_of e (noA e d),d,r⟩;have hKb:K.In (z5Z s₁.heap H):=λb o e=>base_of (KX b o e) (by cases q:H b with
   | none=>rfl | some u=>
    have e':b=a:=hA b (by rw[q];simp);subst e';rw[hK (by rw[q];simp)]at e;cases e);have hM:Mod K mg (z5Z s₁.heap H):=⟨hKb,nsK hns,⟨mb,nsK hb,hbb⟩,let ⟨mc,h1,h2⟩:=hlim;⟨mc,nsK h1,h2⟩⟩;have e0:z9D P w K mg (z5Z s₁.heap H) callerA [] s₁ H:=⟨rfl,hM,λb o e=>z8J e,Nat.le_of_eq (z47 _ _),trivial,λb hb=>absurd (show b∈([]:List Addr) from hb) (by simp),hok,.of_eq hg⟩;refine _bK ((F _ hKb (nsK hns)).run callerA [] s₁ H ⟨[.ref a],[]⟩ [.ref a] [.ref a] _ _ hr e0 (hbind s₁ (.ref a)) (.cons rfl .nil) (hsp H hO hS)) λr s' h=>?_;cases r with
  | error e=>exact (hCX H e s' h).elim | ok fl=> cases fl with
   | next=>exact False.elim h | brk=>exact False.elim h | cont=>exact False.elim h | ret u=>
    obtain⟨v,H',os,bare,un,hok',r',q⟩:=h;have q':v=.bl true:=q;subst q';obtain rfl:u=Value.bool true:=r';refine⟨rfl,OldK.of_keep λb o e=>?_,os,bare⟩;cases q:H b with
    | none=>exact un.keep b o e q (by intro z;exact absurd (show b∈([]:List Addr) from z) (by simp)) (by simp) | some u=>
     rcases hO b with z | ⟨ob,xs,z⟩;·rw[q]at z;cases z
     ·have z2:=un.frzs b ob _ z;obtain⟨e1,_⟩:=hok b _ z;obtain⟨e2,_⟩:=hok' b _ z2;rw[e]at e1;cases e1;exact e2
 cases hk:K.lookup a with
 | some o=>
  have e:=KX a o hk;rw[ha]at e;cases e;refine core (λ_=>none) (λ_=>.inl rfl) (.inr ⟨_,vs.toArray,_,hk,rfl,rfl,rfl,by rw[_j,lenV];exact hl,by simpa using rv⟩) (λb u z=>by have z':(none:Option HO)=some u:=z;cases z') (λb z=>absurd rfl z) λz=>absurd rfl z | none=>
  refine core (λb=>if b=a then some (.frz {cls:=.type "list",data:=.seq vs.toArray} (.lst (ns.map V.int))) else none) (λb=>?_) (.inl (.inr ⟨{cls:=.type "list",data:=.seq vs.toArray},_f rfl⟩)) (λb u z=>?_) (λb z=>?_) λ_=>hk
  ·by_cases hb:b=a;·exact .inr ⟨_,_,_f hb⟩
   ·exact .inl (_o hb)
  ·by_cases hb:b=a
   ·have z':=(_f hb).symm.trans z;cases z';subst hb;exact⟨ha,by rw[_R];exact hl,vs,_,rv,ha⟩
   ·have z':=(_o hb).symm.trans z;cases z'
  ·by_cases hb:b=a;·exact hb
   ·exact absurd (_o hb) z
abbrev KOf{K:W.Frag}{h:Heap}(_:K.In h):W.Frag:=K
def uU(s:Stmt):Arguments:=match s with
 | .FunctionDef _ a _ _ _ _ _ _ _ _=>a | _=>{posonlyargs:=[],args:=[],vararg:=none,kwonlyargs:=[],kw_defaults:=[],kwarg:=none,defaults:=[]}
def xz(s:Stmt):List Stmt:=match s with
 | .FunctionDef _ _ b _ _ _ _ _ _ _=>b | _=>[]
def zh(s:Stmt):Scope:=match s with
 | .FunctionDef _ _ _ _ _ _ sc _ _ _=>sc | _=>{kind:=.function,names:=[],isGenerator:=false,isCoroutine:=false}
abbrev CX0:CXT:=λ_ _ _ _ _ _=>False
abbrev E0:XK:=λ_ _ _=>False
theorem zW{X:Cx}:Passes CX0 X E0:=λ_ _ _ _ _ _ _ h=>h.elim
structure Fun(K:W.Frag)(x qual:Str)(st:Stmt)(f:Addr)(fd:FuncData):Prop where
 ex:∃(oc:Value)(od:Option Addr)(kV doc pm:Value)(an:Option Addr)(cdv ct:Value)(osl:Array (Option Value)), fd=W.fnOf x qual (uU st) (xz st) (zh st) .none kV doc pm an cdv ct/\K.lookup f=some ⟨oc,od,.func fd,osl⟩/\W.codeIn K cdv qual=true
 kp:W.keepIn K (.ref f)=true
section
variable {P:Program}{w:World}{K:W.Frag}{mg:Str->Option Value}{base:Heap}
theorem Fun.ok{x qual:Str}{st:Stmt}{f:Addr}{fd:FuncData}{N ps:List Str}{k:Nat}{sp:Sp}(F:Fun K x qual st f fd)(S:zC N ps (zh st))(len:∀vs H Q E,sp vs H Q E->vs.length=ps.length) (hbody:∀(cdv:Value)(A:Around)(outer:List Env)(s:Shared)(H:Hp)(vs:List V)(Q:VK)(E:XK),qO k (A.deeper (envOfC qual (zh st) s.heap.objs.size f cdv))->sp vs H Q E-> ∃t,PSs (jK CX0 P w K mg base N qual (zh st) f cdv A outer s H E).nox (xz st) t/\t {nx:=λ_ H'=>Q .non H',rt:=Q} (start N vs) H):z0P P w K mg base CX0 (k+1) f fd ps sp:=by
 obtain⟨oc,od,kV,doc,pm,an,cdv,ct,osl,rfl,lk,hcd⟩:=F.ex;refine z93 lk hcd S len λA outer s H vs Q E hr hsp=>?_;obtain⟨t,h,q⟩:=hbody cdv A outer s H vs Q E hr hsp;exact⟨t,h.nox,q⟩
theorem Fun.binds{x qual:Str}{st:Stmt}{f:Addr}{fd:FuncData}{ps:List Str}(F:Fun K x qual st f fd) (h:∀(kV doc pm:Value)(an:Option Addr)(cdv ct:Value)(us:List Value),us.length=ps.length->bindArgs (W.fnOf x qual (uU st) (xz st) (zh st) .none kV doc pm an cdv ct) ⟨us,[]⟩=pure (ps.zip us)):Binds K fd ps []:=by
 obtain⟨oc,od,kV,doc,pm,an,cdv,ct,osl,rfl,lk,hcd⟩:=F.ex;exact .all (h kV doc pm an cdv ct)
theorem zah{x qual:Str}{st:Stmt}{f:Addr}{oc:Value}{od an:Option Addr}{osl:Array (Option Value)}{kV doc pm cdv ct:Value}(l:K.lookup f=some ⟨oc,od,.func (W.fnOf x qual (uU st) (xz st) (zh st) .none kV doc pm an cdv ct),osl⟩) (c:W.codeIn K cdv qual=true)(k:W.keepIn K (.ref f)=true):Fun K x qual st f (W.fnOf x qual (uU st) (xz st) (zh st) .none kV doc pm an cdv ct):=⟨⟨oc,od,kV,doc,pm,an,cdv,ct,osl,rfl,l,c⟩,k⟩
end
end L2
set_option maxHeartbeats 4000000
namespace L2
def z0Q(env:Env):List (Str×NameKind)->List (Str×Addr)->List (Str×Addr)
 | [],acc=>acc | (n,k)::r,acc=>z0Q env r (if k==.free then (match env.cells.lookup n with | some c=>(n,c)::acc | none=>acc) else acc)
theorem kb{env:Env}:∀(names:List (Str×NameKind))(acc:List (Str×Addr)),(∀x c,acc.lookup x=some c->env.cells.lookup x=some c)->∀x c,(z0Q env names acc).lookup x=some c->env.cells.lookup x=some c
 | [],acc,ha=>ha | (n,k)::r,acc,ha=>by
  unfold z0Q;refine kb r _ λx c=>?_;split
  ·split
   ·rename_i c' hc;intro h;rw[_G]at h;split at h
    ·rename_i hb;cases h;rw[_X.mp hb];exact hc
    ·exact ha x c h
   ·exact ha x c
  ·exact ha x c
theorem z1s{env:Env}{x:Str}:∀(names:List (Str×NameKind))(acc:List (Str×Addr)),(acc.lookup x).isSome=true->((z0Q env names acc).lookup x).isSome=true
 | [],acc,ha=>ha | (n,k)::r,acc,ha=>by
  unfold z0Q;refine z1s r _ ?_;split
  ·split
   ·rw[_G];split;·rfl
    ·exact ha
   ·exact ha
  ·exact ha
theorem kS{env:Env}{x:Str}:∀(names:List (Str×NameKind))(acc:List (Str×Addr)),(x,NameKind.free)∈names->(∃c,env.cells.lookup x=some c)->∃c,(z0Q env names acc).lookup x=some c
 | [],acc,h,_=>nomatch h | (n,k)::r,acc,h,hc=>by
  rcases _l.mp h with e | h
  ·cases e;obtain⟨c,hc⟩:=hc;unfold z0Q;have q:((z0Q env r ((x,c)::acc)).lookup x).isSome=true:=z1s r _ (by simp);rw[_f (by rfl),hc];exact Option.isSome_iff_exists.mp q
  ·unfold z0Q;exact kS r _ h hc
theorem kF{env:Env}(f:Str×NameKind->List (Str×Addr)->Sem (ForInStep (List (Str×Addr)))) (hf:∀n k cs,f (n,k) cs=if k==.free then (do let a <- cellOf env n;pure (.yield ((n,a)::cs))) else pure (.yield cs)): ∀(names:List (Str×NameKind))(acc:List (Str×Addr)),(∀y∈names,y.2=.free->∃c,env.cells.lookup y.1=some c)->forIn names acc f=pure (z0Q env names acc)
 | [],acc,_=>rfl | (n,k)::r,acc,h=>by
  rw[List.forIn_cons,hf];have ih:=λacc'=>kF f hf r acc' λy hy=>h y (_n _ hy);unfold z0Q;by_cases hk:k=.free
  ·subst hk;obtain⟨c,hc⟩:=h (n,.free) _B rfl;have hc':env.cells.lookup n=some c:=hc;have e:cellOf env n=pure c:=by unfold cellOf;rw[hc']
   rw[_f (by rfl),_f (by rfl),e,hc',pure_bind,pure_bind];exact ih _
  ·have hb:(k==NameKind.free)=false:=by simpa using hk
   rw[hb,_o (by decide),_o (by decide),pure_bind];exact ih _
theorem z0I{scope:Scope}{env:Env}(h:∀y∈scope.names,y.2=.free->∃c,env.cells.lookup y.1=some c):closureFor scope env=pure (z0Q env scope.names []):=by
 simp only[closureFor];rw[kF (env:=env) _ (λn k cs=>by cases hk:k==NameKind.free<;>simp[hk]) scope.names [] h];simp
theorem xD:∀(names:List (Str×NameKind))(n:Nat)(acc:List (Str×Addr)),cellsFrom n names acc=cellsFrom n names []++acc
 | [],_,_=>rfl | (x,k)::r,n,acc=>by
  unfold cellsFrom;split
  ·rw[xD r (n+1) ((x,n)::acc),xD r (n+1) [(x,n)]];simp
  ·exact xD r n acc
theorem wY{x:Str}{c:Addr}:∀(names:List (Str×NameKind))(n:Nat)(acc:List (Str×Addr)),(x,c)∈cellsFrom n names acc->(x,c)∈acc\/(x,NameKind.cell)∈names
 | [],_,_,h=>.inl h | (y,k)::r,n,acc,h=>by
  unfold cellsFrom at h;split at h
  ·rename_i hk;rcases wY r _ _ h with q | q
   ·rcases _l.mp q with e | q
    ·cases e;refine .inr ?_;rw[show k=NameKind.cell from _X.mp hk];exact _B
    ·exact .inl q
   ·exact .inr (_n _ q)
  ·rcases wY r _ _ h with q | q;·exact .inl q
   ·exact .inr (_n _ q)
def z6I(X:Cx)(scope:Scope)(C:Addr):Env:= {scope:=relabel scope X.env,locals:=C,globals:=X.env.globals,cells:=cellsFrom (C+1) scope.names []++z0Q X.env scope.names [],qual:=X.env.qual,func:=none,code:=X.env.code,frame:=X.env.frame,builtins:=X.env.builtins}
def yr(X:Cx)(N':List Str)(scope:Scope)(ex:List Addr)(s:Shared)(H:Hp):Cx where
 prog:=X.prog;w:=X.w;K:=X.K;mg:=X.mg;base:=X.base;A:=X.A;N:=N';s₀:=s;H₀:=H;env:=z6I X scope s.heap.objs.size;outer:=X.stack;stack:=X.stack;ex:=ex;fn:=λx=>scope.names.lookup x==some .cell;calm:=X.calm;pn:=[];xe:=λ_ _=>False
theorem ua{env:Env}{x:Str}{k:NameKind}:∀{names:List (Str×NameKind)},names.lookup x=some k-> (names.map λ(n,k)=>if (k==NameKind.free&&env.scope.kind==.function&&env.kindOf n==some .cell) then (n,NameKind.cell) else (n,k)).lookup x=some k\/ (k=.free/\(names.map λ(n,k)=>if (k==NameKind.free&&env.scope.kind==.function&&env.kindOf n==some .cell) then (n,NameKind.cell) else (n,k)).lookup x=some .cell)
 | [],h=>by simp at h | (n,k')::r,h=>by
  have ih:=@ua env x k r;show List.lookup x ((if (k'==NameKind.free&&env.scope.kind==.function&&env.kindOf n==some .cell)=true then (n,NameKind.cell) else (n,k'))::_)=_\/(_/\List.lookup x ((if (k'==NameKind.free&&env.scope.kind==.function&&env.kindOf n==some .cell)=true then (n,NameKind.cell) else (n,k'))::_)=_);cases hx:x==n with
  | true=>
   simp only[_G,hx]at h;cases h;by_cases hc:(k==NameKind.free&&env.scope.kind==.function&&env.kindOf n==some .cell)=true
   ·rw[_f hc];simp only[_q,_X]at hc;exact .inr ⟨hc.1.1,by simp[_G,hx]⟩
   ·rw[_o hc];exact .inl (by simp[_G,hx]) | false=>
   simp only[_G,hx]at h;by_cases hc:(k'==NameKind.free&&env.scope.kind==.function&&env.kindOf n==some .cell)=true;·rw[_f hc];simp only[_G,hx];exact ih h
   ·rw[_o hc];simp only[_G,hx];exact ih h
theorem wy{env:Env}{x:Str}{k:NameKind}:∀{names:List (Str×NameKind)}, (names.map λ(n,k)=>if (k==NameKind.free&&env.scope.kind==.function&&env.kindOf n==some .cell) then (n,NameKind.cell) else (n,k)).lookup x=some k->(k=.cell\/k=.free)->(x,NameKind.cell)∈names\/(x,NameKind.free)∈names
 | [],h,_=>by simp at h | (n,k')::r,h,hk=>by
  have ih:=@wy env x k r;change List.lookup x ((if (k'==NameKind.free&&env.scope.kind==.function&&env.kindOf n==some .cell)=true then (n,NameKind.cell) else (n,k'))::_)=_ at h;have step:(List.lookup x (r.map λ(n,k)=>if (k==NameKind.free&&env.scope.kind==.function&&env.kindOf n==some .cell) then (n,NameKind.cell) else (n,k))=some k)->(x,NameKind.cell)∈(n,k')::r\/(x,NameKind.free)∈(n,k')::r:=λq=> (ih q hk).elim (λz=>.inl (_n _ z)) λz=>.inr (_n _ z);by_cases hc:(k'==NameKind.free&&env.scope.kind==.function&&env.kindOf n==some .cell)=true
  ·rw[_f hc,_G]at h;split at h
   ·rename_i hb;simp only[_q,_X]at hc;rw[_X.mp hb,hc.1.1];exact .inr _B
   ·exact step h
  ·rw[_o hc,_G]at h;split at h
   ·rename_i hb;cases h;rw[_X.mp hb];rcases hk with rfl | rfl;·exact .inl _B
    ·exact .inr _B
   ·exact step h
def inner(mp:List (Option Nat))(O:St):St:=mp.map λo=>match o with | some j=>(O[j]?).getD none | none=>none
def z2L(N:List Str)(names:List (Str×NameKind)):List Str->List (Option Nat)->Bool
 | [],[]=>true | _::r,none::mp=>z2L N names r mp | x::r,some j::mp=>N[j]? == some x&&names.lookup x==some .free&&z2L N names r mp | _,_=>false
theorem kX{N:List Str}{names:List (Str×NameKind)}:∀{N':List Str}{mp:List (Option Nat)},z2L N names N' mp=true->mp.length=N'.length
 | [],[],_=>rfl | _::_,none::_,h=>by
  simp only[z2L]at h;simp only[_c];rw[kX h] | _::_,some _::_,h=>by
  simp only[z2L,_q]at h;simp only[_c];rw[kX h.2] | [],none::_,h=>by cases h | [],some _::_,h=>by cases h | _::_,[],h=>by cases h
theorem z2K{N:List Str}{names:List (Str×NameKind)}:∀{N':List Str}{mp:List (Option Nat)}{i j:Nat}{x:Str},z2L N names N' mp=true->N'[i]? = some x->mp[i]? = some (some j)->N[j]? = some x/\names.lookup x=some .free
 | [],_,_,_,_,_,h,_=>by simp at h | _::_,[],_,_,_,_,_,h=>by simp at h | _::_,none::_,0,_,_,_,_,h=>by simp at h | _::_,some _::_,0,_,_,h,h1,h2=>by
  simp only[z2L,_q,_X]at h;simp at h1 h2;subst h1 h2;exact h.1 | _::_,none::_,i+1,_,_,h,h1,h2=>by
  simp only[z2L]at h;exact z2K (i:=i) h (by simpa using h1) (by simpa using h2) | _::_,some _::_,i+1,_,_,h,h1,h2=>by
  simp only[z2L,_q]at h;exact z2K (i:=i) h.2 (by simpa using h1) (by simpa using h2)
section
variable {X:Cx}{pins:List (Addr×Obj)}{O:St}{H:Hp}{s s1:Shared}{scope:Scope}{N':List Str}{ex:List Addr}{mp:List (Option Nat)}
theorem z3V{α:Type}{x:Str}{l1 l2:List (Str×α)}{c:α}(h:(l1++l2).lookup x=some c):l1.lookup x=some c\/(l1.lookup x=none/\l2.lookup x=some c):=by
 rw[_aN]at h;cases e:l1.lookup x with
 | some d=>rw[e]at h;exact .inl h | none=>rw[e]at h;exact .inr ⟨rfl,h⟩
theorem z3Z (I:Inv X pins O H s) (hkd:scope.kind=.function) (hnm:∀y∈scope.names,scope.names.lookup y.1=some y.2) (hfr:∀y∈scope.names,y.2=.free->X.env.kindOf y.1=some .cell\/X.env.kindOf y.1=some .free) (hmp:z2L X.N scope.names N' mp=true) (hex:∀b∈ex,b<s.heap.objs.size/\H b=none/\b≠X.env.locals/\b∉X.fs/\(b∈X.ex\/X.s₀.heap.objs.size<=b)/\(∀x c,X.env.cells.lookup x=some c->c≠b)) (e1:s1.heap=pushCells (s.heap.push {cls:=.type "dict",data:=.dict #[]}) scope.names) (e2:s1.os=s.os) (e3:s1.gens=s.gens): Inv (yr X N' scope ex s H) [] (inner mp O) H s1:=by
 have keep:∀b o,s.heap.get? b=some o->s1.heap.get? b=some o:=λb o e=>by rw[e1];exact pushCells_keeps _ _ b o (_d _ e)
 have ok:=cellsFrom_ok scope.names (s.heap.push {cls:=.type "dict",data:=.dict #[]}) (s.heap.objs.size+1) [] ⟨λ_ _ hm=>(nomatch hm),List.Pairwise.nil⟩ (by rw[_ab];exact _i _);rw[_ab,<- e1]at ok;have hclo:∀x c,(z0Q X.env scope.names []).lookup x=some c->X.env.cells.lookup x=some c:=kb scope.names [] (λx c h=>by simp at h);have clt:∀x c,X.env.cells.lookup x=some c->c<s.heap.objs.size:=λx c h=>by obtain⟨v,q⟩:=I.cell x c h;exact q.lt
 have own:∀x c,(cellsFrom (s.heap.objs.size+1) scope.names []).lookup x=some c->s1.heap.IsCell c none/\s.heap.objs.size+1<=c:=λx c h=>ok.empty x c (_E h);have both:∀x c,(z6I X scope s.heap.objs.size).cells.lookup x=some c->((cellsFrom (s.heap.objs.size+1) scope.names []).lookup x=some c/\s1.heap.IsCell c none/\s.heap.objs.size+1<=c)\/(X.env.cells.lookup x=some c):=λx c h=>by
  rcases z3V h with q | ⟨_,q⟩;·exact .inl ⟨q,own x c q⟩
  ·exact .inr (hclo x c q)
 refine⟨⟨I.ok.mod,hkd,I.ok.glob,I.ok.blt,_i _,λx y c h1 h2=>?_,λx hx=>?_,λx c hf h=>?_,I.ok.hd,I.ok.frames,.inl rfl,λb hb=>⟨_u (hex b hb).1,λx c h=>?_⟩,λb o e=>I.bs b o e,_v I.ok.bsz I.sz,λb o e hb=>?_,λb hb hf=>?_,I.stack,I.stkFree⟩, e2,by rw[e3];exact I.bare,Un.kept keep,?_,λx c h=>?_,I.hok.fresh (_i _),λx c h=>?_,λp hp=>absurd (show p∈([]:List (Addr×Obj)) from hp) (by simp),I.hok.kept keep,?_⟩
 ·rcases both x c h1 with⟨q1,_,l1⟩ | q1<;>rcases both y c h2 with⟨q2,_,l2⟩ | q2;·exact name_of_addr ok.apart (_E q1) (_E q2)
  ·exact absurd (_e (clt y c q2) (_bq l1)) (_V _)
  ·exact absurd (_e (clt x c q1) (_bq l2)) (_V _)
  ·exact I.ok.inj x y c q1 q2
 ·have hx':(x,NameKind.cell)∈scope.names\/(x,NameKind.free)∈scope.names:=by
   rcases hx with hx | hx;·exact wy (env:=X.env) hx (.inl rfl)
   ·exact wy (env:=X.env) hx (.inr rfl)
  show ∃c,(cellsFrom (s.heap.objs.size+1) scope.names []++z0Q X.env scope.names []).lookup x=some c;rw[_aN];cases e:(cellsFrom (s.heap.objs.size+1) scope.names []).lookup x with
  | some c=>exact⟨c,rfl⟩ | none=>
   rcases hx' with hx' | hx'
   ·obtain⟨c,q⟩:=je (sc:=scope) (n:=s.heap.objs.size+1) (hnm (x,.cell) hx');rw[q]at e;cases e
   ·obtain⟨c,q⟩:=kS (env:=X.env) scope.names [] hx' (I.ok.has x (hfr (x,.free) hx' rfl));exact⟨c,by simpa using q⟩
 ·have hf':scope.names.lookup x=some .cell:=_X.mp hf;obtain⟨c',q⟩:=je (sc:=scope) (n:=s.heap.objs.size+1) hf';have h':(cellsFrom (s.heap.objs.size+1) scope.names []++z0Q X.env scope.names []).lookup x=some c:=h;rw[_aN,q]at h';have e:c'=c:=_s h';subst e;exact _bI (Nat.lt_of_succ_le (own x c' q).2)
 ·rcases both x c h with⟨_,_,l⟩ | q
  ·intro z;rw[z]at l;exact absurd (_e (hex b hb).1 (_bq l)) (_V _)
  ·exact (hex b hb).2.2.2.2.2 x c q
 ·rcases (hex b hb).2.2.2.2.1 with z | z;·exact I.ok.noex b o e z
  ·exact absurd (_e (_e (_h e) I.ok.bsz) z) (_V _)
 ·have q:=I.stkSub b hf;rcases _l.mp q with z | z;·exact (hex b hb).2.2.1 z
  ·exact (hex b hb).2.2.2.1 z
 ·refine⟨λ_=>none,?_,λi x v h1 h2 h3=>?_⟩
  ·rw[e1];exact (Heap.Ns.new s.heap (.type "dict")).keeps (pushCells_keeps _ _)
  ·have h2':(inner mp O)[i]? = some (some v):=h2;unfold inner at h2';rw[_S]at h2';cases em:mp[i]? with
   | none=>rw[em]at h2';cases h2' | some o=>
    rw[em]at h2';cases o with
    | none=>cases h2' | some j=>
     obtain⟨hj,hl⟩:=z2K hmp h1 em;have hmem:(x,NameKind.free)∈scope.names:=_E hl;have hv:O[j]? = some (some v):=by
      simp only[_aJ]at h2';cases eO:O[j]? with
      | none=>rw[eO]at h2';cases h2' | some o=>rw[eO]at h2';exact h2'
     obtain⟨m,hn,hlook⟩:=I.loc;have kx:X.env.kindOf x=some .cell\/X.env.kindOf x=some .free:=hfr _ hmem rfl;obtain⟨u,r,L⟩:=hlook j x v hj hv (by rcases kx with k | k;exact .inr (.inl k);exact .inr (.inr k));refine⟨u,r,.inr ?_⟩;rcases L with⟨k,_⟩ | ⟨_,c,hc,hcell⟩;·rcases kx with k' | k'<;>(rw[k]at k';cases k')
     ·have ncell:(x,NameKind.cell)∉scope.names:=λz=>by
       have a:=hnm _ z;rw[hl]at a;cases a
      refine⟨?_,c,?_,hcell.keeps keep⟩
      ·rcases ua (env:=X.env) hl with q | ⟨_,q⟩;·exact .inr q
       ·exact .inl q
      ·show (cellsFrom (s.heap.objs.size+1) scope.names []++z0Q X.env scope.names []).lookup x=some c;rw[_aN];cases e:(cellsFrom (s.heap.objs.size+1) scope.names []).lookup x with
       | some c'=> exact absurd ((wY _ _ _ (_E e)).resolve_left (by simp)) ncell | none=>
        obtain⟨c2,q⟩:=kS (env:=X.env) scope.names [] hmem ⟨c,hc⟩;have q2:=hclo x c2 q;rw[hc]at q2;cases q2;simpa using q
 ·rcases both x c h with⟨_,q,_⟩ | q;·exact⟨_,q⟩
  ·obtain⟨v,z⟩:=I.cell x c q;exact⟨v,z.keeps keep⟩
 ·rcases both x c h with⟨_,_,l⟩ | q;·exact I.hok.fresh (by omega)
  ·exact I.freeC x c q
 ·unfold inner;rw[_R];exact kX hmp
end
section
variable {M:Model}{A:Around}{E:Value->Shared->Prop}{s:Shared}
theorem z2D{scope:Scope}{env:Env}{cl:List (Str×Addr)}{Q:Env->Shared->Prop} (h:Q {scope:=scope,locals:=s.heap.objs.size,globals:=env.globals,cells:=cellsFrom (s.heap.objs.size+1) scope.names cl,qual:=env.qual,func:=none,code:=env.code,frame:=env.frame,builtins:=env.builtins} {s with heap:=pushCells (s.heap.push {cls:=.type "dict",data:=.dict #[]}) scope.names}): wpAny M A (newFunctionEnv scope env.globals cl [] env.qual none .none (some env)) Q E s:=by
 simp only[newFunctionEnv,Option.isSome_some,_H];refine _a (wpAny_alloc ?_);refine _a (wpAny_layCells _ (λname kind cells=>by cases hkc:kind==NameKind.cell<;>simp[hkc]) _ _ _ _ ?_);rw[show ({s with heap:=s.heap.push {cls:=.type "dict",data:=.dict #[]}}:Shared).heap.objs.size=s.heap.objs.size+1 from _ab ..];refine _a ?_;rw[List.forIn_nil];exact _k (_k h)
end
section
variable {prog:Program}{w:World}{A:Around}{E:Value->Shared->Prop}{R:Result->Shared->Prop}{s:Shared}
theorem z1a{elt target iter:Expr}{ifs:List Expr}{scope:Scope}{pos:Pos}{it acc:Value}{env:Env}(I:Nat->Shared->Prop) (z4d:∀n s,I n s->wpAny (model prog w) A (pyNext it) (λr s₁=>match r with
   | none=>R (.ok .next) s₁ | some v=>wpAny (model prog w) A (letOwnedTupleGo target it v) (λ_ s₁'=>wpAny (model prog w) A (assign target env v) (λ_ s₂=> wpAny (model prog w) A (forIn ifs true λc r=>if r=true then do let ok <- isTrue c env (eval c env);pure (ForInStep.yield ok) else pure (ForInStep.yield r)) (λok s₃=> if ok=true then wpAny (model prog w) A (eval elt env) (λx s₄=> wpAny (model prog w) A (call (.builtin "list.append") [acc,x]) (λ_ s₅=>∃m,m<n/\I m s₅) (λ_ _=>False) s₄) (λ_ _=>False) s₃ else ∃m,m<n/\I m s₃) (λ_ _=>False) s₂) (λ_ _=>False) s₁') (λ_ _=>False) s₁) (λ_ _=>False) s) (n:Nat)(h:I n s): codeAny (model prog w) A (.compLoop (.ListComp elt [⟨target,iter,ifs,0⟩] scope pos) 0 it acc env) R s:=by
 refine codeAny_loop rfl I (λn s hI=>?_) n h;show wpAny _ A ((compTurn (.ListComp elt [⟨target,iter,ifs,0⟩] scope pos) 0 it acc env).onRaise (λx=>do noteFrame x env;theTreesLotGoes x)) _ _ s;refine wpAny_noted ?_;rw[compTurn_list];refine _a (wpAny_standAt (_a (_J (z4d n s hI) (λr s₁ h₁=>?_) λ_ _ h'=>h'.elim)));cases r with
 | none=>exact _k h₁ | some v=>
  refine _a (_J h₁ (λ_ s₁' h₁'=>?_) λ_ _ h'=>h'.elim);refine _a (_J h₁' (λ_ s₂ h₂=>_a (_J h₂ (λok s₃ h₃=>?_) λ_ _ h'=>h'.elim)) λ_ _ h'=>h'.elim);cases ok with
  | false=>exact _k ⟨rfl,h₃⟩ | true=> exact _a (_a (_J h₃ (λx s₄ h₄=>_a (_J h₄ (λ_ s₅ h₅=>_k (_k ⟨rfl,h₅⟩)) λ_ _ h'=>h'.elim)) λ_ _ h'=>h'.elim))
end
def z6N(X:Cx)(ifs:List Expr)(t:TT):Prop:= ∀(pins:List (Addr×Obj))(s:Shared)(O:St)(H:Hp)(Q:Bool->Hp->Prop),Inv X pins O H s->t O H Q-> wpAny (model X.prog X.w) X.A (forIn ifs true λc r=>if r=true then do let ok <- isTrue c X.env (eval c X.env);pure (ForInStep.yield ok) else pure (ForInStep.yield r)) (TP X pins O Q) X.xe s
theorem z6s{X:Cx}:z6N X [] (λ_ H Q=>Q true H):=λ_ _ _ H _ I h=>wpAny_tests_nil ⟨H,I,h⟩
theorem z6H{X:Cx}{c:Expr}{t:TT}(h:PT X c t):z6N X [c] t:=λpins s O H Q I hq=>wpAny_tests_one (h pins s O H Q I hq)
theorem Inv.track {X:Cx} {pins:List (Addr×Obj)} {O:St} {H:Hp} {s:Shared} {a:Addr} {o:HO} (I:Inv X pins O H s) (f:z2G X pins H a) (new:yF X.prog X.w (upd H a o) s.heap a o):Inv X pins O (upd H a o) s:=by
 obtain⟨f0,f1,f2,f3,f4,f5⟩:=f;have hs:HOk X.prog X.w (upd H a o) s.heap:=λb u e=>by
  by_cases hb:b=a;·subst hb;rw[ya]at e;cases e;exact new
  ·rw[zu hb]at e;exact (I.hok b u e).stay (λ_ _ _ q=>q) (λc q=>by rw[zu (yf q f0)];exact q) λc xs q=>by rw[zu (yf q f0)];exact q
 exact I.step (h':=s.heap) (g':=s.gens) (d':=s.drawn) (t':=s.toks) (ch:=[a]) (λb hb=>by
  have e:b=a:=by simpa using hb
  subst e;exact⟨f3,f1,f4,f5⟩) (λb o _ _ _ e _=>e) (λb o _ _ _ e _=>⟨o.slots,e⟩) (λb o hb _ n=>by rw[zu (λz=>hb (by simp[z]))];exact n) (λb o _ e=>⟨o,e⟩) (λb xs q=>by rw[zu (yf q f0)];exact q) (λb u xs q=>by rw[zu (yf q f0)];exact q) (λb ps q=>⟨#[],by rw[zu (yf q f0),q];simp⟩) (λ_ q=>q) hs I.bare
def zaR(wi:TI)(mp:List (Option Nat))(g:TG)(ti:TT)(te:TE):TE:=λO H Q=>wi O H λJ H1=>∃W:Nat->Nat->List V->Hp->Prop,(∃m,W 0 m [] H1)/\∀i m ys H,W i m ys H-> (J.stop i H/\ys.length<=sizeLine/\∀p,H p=none->Q (.ref p) (upd H p (.lst ys)))\/ (J.go i H/\∀x H',J.yld i H x H'->g x (inner mp O) H' λO2 H2=>(O2.length=(inner mp O).length/\∀(i:Nat) v,(inner mp O)[i]? = some (some v)->O2[i]? = some (some v))/\ ti O2 H2 λb H3=>if b=true then te O2 H3 λy H4=>ys.length<=sizeLine/\∃m',m'<m/\W (i+1) m' (ys++[y]) H4 else ∃m',m'<m/\W (i+1) m' ys H3)
def z5G(X:Cx)(pins:List (Addr×Obj))(O:St)(C:Addr)(Q:VK)(acc:Value)(s':Shared):Prop:= ∃v Hf,Inv X pins O Hf s'/\yP v acc/\Q v Hf/\(∃m,s'.heap.Ns C m)/\z2G X pins Hf C
theorem z3H {X:Cx} {tg iter elt:Expr} {ifs:List Expr} {scope:Scope} {pos:Pos} {g:TG} {ti:TT} {te:TE} {N':List Str} {mp:List (Option Nat)} {pins:List (Addr×Obj)} {O:St} {Q:VK} {J:It} {H2:Hp} {s₂:Shared} {it:Addr} {fp:List Addr} {tn:Nat->Heap->Prop} {E:Value->Shared->Prop} {RR:Value->Addr->Result->Shared->Prop} (hc:X.calm=true) (hg:∀ex s H,PG (yr X N' scope ex s H) tg g) (ht:∀ex s H,z6N (yr X N' scope ex s H) ifs ti) (he:∀ex s H,PE (yr X N' scope ex s H) elt te) (hkd:scope.kind=.function) (hnm:∀y∈scope.names,scope.names.lookup y.1=some y.2) (hfr:∀y∈scope.names,y.2=.free->X.env.kindOf y.1=some .cell\/X.env.kindOf y.1=some .free) (hmp:z2L X.N scope.names N' mp=true) (I2:Inv X pins O H2 s₂) (T:z7G X.prog X.w X.K tg J fp it tn) (st2:tn 0 s₂.heap) (f2:∀b∈fp,z2G X pins H2 b) (W:Nat->Nat->List V->Hp->Prop) (w0:∃m,W 0 m [] H2) (z4d:∀i m ys H,W i m ys H-> (J.stop i H/\ys.length<=sizeLine/\∀p,H p=none->Q (.ref p) (upd H p (.lst ys)))\/ (J.go i H/\∀x H',J.yld i H x H'->g x (inner mp O) H' λO2 H2=>(O2.length=(inner mp O).length/\∀(i:Nat) v,(inner mp O)[i]? = some (some v)->O2[i]? = some (some v))/\ ti O2 H2 λb H3=>if b=true then te O2 H3 λy H4=>ys.length<=sizeLine/\∃m',m'<m/\W (i+1) m' (ys++[y]) H4 else ∃m',m'<m/\W (i+1) m' ys H3)) (hRR:∀acc C s',z5G X pins O C Q acc s'->RR acc C (.ok .next) s'): wpAny (model X.prog X.w) X.A (newList []) (λacc s₃=>wpAny (model X.prog X.w) X.A (newFunctionEnv scope X.env.globals (z0Q X.env scope.names []) [] X.env.qual none .none (some X.env)) (λcenv s₄=> codeAny (model X.prog X.w) X.A (.compStart (.ListComp elt [⟨tg,iter,ifs,0⟩] scope pos) 0 (.ref it) acc {cenv with scope:=relabel scope X.env}) (RR acc cenv.locals) s₄) E s₃) E s₂:=by
 refine _ah ?_;have hf2:H2 s₂.heap.objs.size=none:=I2.hok.fresh (_i _);have fA:z2G X pins H2 s₂.heap.objs.size:=I2.fpOk (_i _) hf2;generalize hacc:s₂.heap.objs.size=acc at hf2 fA ⊢;have I3:Inv X pins O H2 {s₂ with heap:=s₂.heap.push {cls:=.type "list",data:=.seq ([]:List Value).toArray}}:=I2.kept (t':=s₂.toks) λb o e=>_d _ e;have ha3:(s₂.heap.push {cls:=.type "list",data:=.seq ([]:List Value).toArray}).get? acc=some (LCg.lst []):=by rw[<- hacc];exact _m _ rfl
 have sz3:(s₂.heap.push {cls:=.type "list",data:=.seq ([]:List Value).toArray}).objs.size=acc+1:=by rw[_ab,hacc]
 have kp3:∀b o,s₂.heap.get? b=some o->(s₂.heap.push {cls:=.type "list",data:=.seq ([]:List Value).toArray}).get? b=some o:=λb o e=>_d _ e;show wpAny _ _ _ _ _ {s₂ with heap:=s₂.heap.push {cls:=.type "list",data:=.seq ([]:List Value).toArray}};generalize hs3:({s₂ with heap:=s₂.heap.push {cls:=.type "list",data:=.seq ([]:List Value).toArray}}:Shared)=s₃ at I3 ⊢;have ha3':s₃.heap.get? acc=some (LCg.lst []):=by rw[<- hs3];exact ha3
 have sz3':s₃.heap.objs.size=acc+1:=by rw[<- hs3];exact sz3
 have kp3':∀b o,s₂.heap.get? b=some o->s₃.heap.get? b=some o:=by rw[<- hs3];exact kp3
 have flt:∀b∈fp,b<acc:=λb hb=>by
  obtain⟨o,e,_⟩:=T.obj 0 _ st2 b hb;rw[<- hacc];exact _h e
 have fne:∀b∈fp,b≠acc:=λb hb=>_u (flt b hb);have tn3:tn 0 s₃.heap:=T.keep 0 _ _ st2 λb hb o e=>kp3' b o e;refine z2D ?_;rw[xD];have hex:∀b∈acc::fp,b<s₃.heap.objs.size/\H2 b=none/\b≠X.env.locals/\b∉X.fs/\(b∈X.ex\/X.s₀.heap.objs.size<=b)/\(∀x c,X.env.cells.lookup x=some c->c≠b):=λb hb=>by
  rcases _l.mp hb with z | hb
  ·subst z;exact⟨by rw[sz3'];exact _aZ _,hf2,fA.2.1,fA.2.2.1,fA.2.2.2.1,fA.2.2.2.2.1⟩
  ·have q:=f2 b hb;exact⟨by rw[sz3'];exact _br (flt b hb),q.1,q.2.1,q.2.2.1,q.2.2.2.1,q.2.2.2.2.1⟩
 have I4:=z3Z (N':=N') (mp:=mp) (ex:=acc::fp) (s1:={s₃ with heap:=pushCells (s₃.heap.push {cls:=.type "dict",data:=.dict #[]}) scope.names}) I3 hkd hnm hfr hmp hex rfl rfl rfl;have kp4:∀b o,s₃.heap.get? b=some o->(pushCells (s₃.heap.push {cls:=.type "dict",data:=.dict #[]}) scope.names).get? b=some o:=λb o e=>pushCells_keeps _ _ b o (_d _ e);generalize hs4:({s₃ with heap:=pushCells (s₃.heap.push {cls:=.type "dict",data:=.dict #[]}) scope.names}:Shared)=s₄ at I4 ⊢;have ha4:s₄.heap.get? acc=some (LCg.lst []):=by rw[<- hs4];exact kp4 _ _ ha3'
 have tn4:tn 0 s₄.heap:=T.keep 0 _ _ tn3 λb hb o e=>by rw[<- hs4];exact kp4 b o e
 have Cne:acc≠s₃.heap.objs.size:=by rw[sz3'];exact _u (_aZ _)
 have celln:∀b∈acc::fp,∀x c,(z6I X scope s₃.heap.objs.size).cells.lookup x=some c->c≠b:=λb hb=>(I4.ok.exf b hb).2;have stat:∀{H':Hp} {o:Obj},(∀b∈fp,H' b=none)->∀b∈fp,z2G (yr X N' scope (acc::fp) s₃ H2) [(acc,o)] H' b:=λ{H' o} hn b hb=> ⟨hn b hb,_u (by show b<s₃.heap.objs.size;rw[sz3'];exact _br (flt b hb)),λhf=>I4.ok.exfs b (_n _ hb) hf,.inl (_n _ hb),celln b (_n _ hb),λp hp=>by
   have e:p=(acc,o):=by simpa[yr] using hp
   rw[e];exact _bo (fne b hb)⟩;have pinA:∀{O':St} {H':Hp} {s':Shared} {its:List Value},Inv (yr X N' scope (acc::fp) s₃ H2) [] O' H' s'->H' acc=none->s'.heap.get? acc=some (LCg.lst its)->Inv (yr X N' scope (acc::fp) s₃ H2) [(acc,LCg.lst its)] O' H' s':=λ{O' H' s' its} J' n' e'=> J'.pins_of λp hp=>by
   have e:p=(acc,LCg.lst its):=by simpa using hp
   subst e;refine⟨e',n',Cne,λhf=>I4.ok.exfs acc _B hf,λv z=>?_⟩;have z':Data.seq _ _=Data.cell v:=z;cases z'
 obtain⟨m0,w0⟩:=w0;have loop:codeAny (model X.prog X.w) X.A (.compLoop (.ListComp elt [⟨tg,iter,ifs,0⟩] scope pos) 0 (.ref it) (.ref acc) (z6I X scope s₃.heap.objs.size)) (RR (.ref acc) s₃.heap.objs.size) s₄:=by
  refine z1a (λn s'=>∃i ys its H',Inv (yr X N' scope (acc::fp) s₃ H2) [] (inner mp O) H' s'/\tn i s'.heap/\(∀b∈fp,H' b=none)/\H' acc=none/\s'.heap.get? acc=some (LCg.lst its)/\yt ys its/\W i n ys H') ?_ m0 ⟨0,[],[],H2,I4,tn4,λb hb=>(f2 b hb).1,hf2,ha4,.nil,w0⟩;rintro n s5 ⟨i,ys,its,H5,I5,tn5,n5,na5,ea5,rv5,w5⟩;have I5':=pinA I5 na5 ea5;rcases z4d i n ys H5 w5 with⟨stop,hz,q⟩ | ⟨go,step⟩
  ·refine _J (T.done (yr X N' scope (acc::fp) s₃ H2) rfl rfl rfl hc i _ s5 _ H5 (λ_ _=>False) I5' (stat n5) tn5 stop) (λr s6 ⟨hr,I6⟩=>?_) λ_ _ z=>z;subst hr;have ea6:=(I6.pin (acc,LCg.lst its) (by simp)).1;have un:Un (frs X.stack) (acc::fp) H2 H5 s₃.heap s6.heap:=I6.base;have I7:Inv X pins O H5 s6:=I3.call' (s':=s6) (I6.os) un I6.hok I6.bare λb hb=>by
    rcases _l.mp hb with z | hb;·subst z;exact⟨fA.2.2.2.1,fA.2.1,fA.2.2.2.2.1,fA.2.2.2.2.2⟩
    ·exact⟨(f2 b hb).2.2.2.1,(f2 b hb).2.1,(f2 b hb).2.2.2.2.1,(f2 b hb).2.2.2.2.2⟩
   have C7:z2G X pins H5 s₃.heap.objs.size:=I3.fpOk (_i _) I6.free;refine hRR _ _ s6 ⟨.ref acc,upd H5 acc (.lst ys),I7.track ⟨na5,fA.2⟩ ?_,rfl,q acc na5,?_,?_,C7.2⟩;·exact⟨hz,its,_,rv5,ea6⟩
   ·obtain⟨m,hm,_⟩:=I6.loc;exact⟨m,hm⟩
   ·rw[zu (_bo Cne)];exact I6.free
  ·refine _J (T.item (yr X N' scope (acc::fp) s₃ H2) rfl rfl rfl hc i _ s5 _ H5 (λ_ _=>False) I5' (stat n5) tn5 go) (λr s6 ⟨u,hr,h6⟩=>?_) λ_ _ z=>z;subst hr;refine _J h6 (λ_ s7 ⟨x,H7,I7,r7,y7,tn7,n7⟩=>?_) λ_ _ z=>z;have I7':=I7.pinned (stat n7) (T.obj _ _ tn7);refine _J (hg _ _ _ _ s7 (inner mp O) H7 x u _ I7' r7 (step x H7 y7)) (λ_ s8 ⟨O8,H8,I8,⟨kl,kv⟩,q8⟩=>?_) λ_ _ z=>z;refine _J (ht _ _ _ _ s8 O8 H8 _ I8 q8) (λb s9 ⟨H9,I9,q9⟩=>?_) λ_ _ z=>z;have pinB:∀{O':St} {H':Hp} {s':Shared},Inv (yr X N' scope (acc::fp) s₃ H2) ([(acc,LCg.lst its)]++z1M fp s7.heap) O' H' s'->(∀b∈fp,H' b=none)/\H' acc=none/\s'.heap.get? acc=some (LCg.lst its)/\tn (i+1) s'.heap/\∀b∈fp,∀o,s7.heap.get? b=some o->s'.heap.get? b=some o:=λ{O' H' s'} J'=>by
    have z:=J'.pin (acc,LCg.lst its) (by simp[yr]);have zz:∀b∈fp,∀o,s7.heap.get? b=some o->s'.heap.get? b=some o/\H' b=none:=λb hb o e=>by
     have y:=J'.pin (b,o) (_D _ (_D _ (qb hb e)));exact⟨y.1,y.2.1⟩
    refine⟨λb hb=>?_,z.2.1,z.1,T.keep _ _ _ tn7 λb hb o e=>(zz b hb o e).1,λb hb o e=>(zz b hb o e).1⟩;obtain⟨o,e,_⟩:=T.obj _ _ tn7 b hb;exact (zz b hb o e).2
   cases b with
   | false=>
    rw[_o (by decide)]at q9 ⊢;obtain⟨m',lt,w9⟩:=q9;obtain⟨z1,z2,z3,z4,_⟩:=pinB I9;exact⟨m',lt,i+1,ys,its,H9,(I9.pins_of (pins':=[]) (λp hp=>absurd hp (by simp))).weak kl.symm kv,z4,z1,z2,z3,rv5,w9⟩ | true=>
    rw[_f rfl]at q9 ⊢;refine _J (he _ _ _ _ s9 O8 H9 _ I9 q9) (λyv s10 ⟨y,H10,I10,r10,hz,m',lt,w10⟩=>?_) λ_ _ z=>z;obtain⟨z1,z2,z3,z4,_⟩:=pinB I10;have zl:its.toArray.size<=sizeLine:=by rw[_j,<- rv5.length];exact hz
    refine append_at (hsz:=zl) z3 λh11 sb ea11=>?_;have I10':=(I10.pins_of (pins':=[]) (λp hp=>absurd hp (by simp))).weak kl.symm kv;have I11:Inv (yr X N' scope (acc::fp) s₃ H2) [] (inner mp O) H10 {s10 with heap:=h11}:=I10'.turned (t':=s10.toks) (λb o hb e=>(sb.2 b hb).trans e) z2 Cne (.inl _B) (celln acc _B) (λp hp=>absurd hp (by simp[yr]));exact⟨m',lt,i+1,ys++[y],its++[yv],H10,I11,T.keep _ _ _ z4 (λb hb o e=>(sb.2 b (fne b hb)).trans e),z1,z2,ea11.trans (_aC some (LCg.lst_snoc its yv)),rv5.append (.cons r10 .nil),w10⟩
 exact codeAny_compStart_list loop (T.self _ 0 _ _ _ tn4 loop)
section
variable {X:Cx}{tg iter elt:Expr}{ifs:List Expr}{scope:Scope}{pos spos py:Pos}{wi:TI}{g:TG}{ti:TT}{te:TE}{N':List Str}{mp:List (Option Nat)}
theorem z2I{pins:List (Addr×Obj)}{O:St}{H:Hp}{s:Shared}{h':Heap}{C:Addr}(I:Inv X pins O H s)(f:z2G X pins H C)(sb:Heap.SameBut C s.heap h'):Inv X pins O H {s with heap:=h'}:= I.turned (t':=s.toks) (λb o hb e=>(sb.2 b hb).trans e) f.1 f.2.1 f.2.2.2.1 f.2.2.2.2.1 f.2.2.2.2.2
theorem z7T (N':List Str) (mp:List (Option Nat)) (hc:X.calm=true) (hi:PI X tg iter wi) (hg:∀ex s H,PG (yr X N' scope ex s H) tg g) (ht:∀ex s H,z6N (yr X N' scope ex s H) ifs ti) (he:∀ex s H,PE (yr X N' scope ex s H) elt te) (hkd:scope.kind=.function) (hnm:∀y∈scope.names,scope.names.lookup y.1=some y.2) (hfr:∀y∈scope.names,y.2=.free->X.env.kindOf y.1=some .cell\/X.env.kindOf y.1=some .free) (hmp:z2L X.N scope.names N' mp=true) (hs:∀x,foldedSetIterable iter X.env x=pure x:=by intro _;rfl):PE X (.ListComp elt [⟨tg,iter,ifs,0⟩] scope pos) (zaR wi mp g ti te):=by
 intro pins s O H Q I h;rw[eval_ListComp];refine wpAny_comprehension_free (use:=none) rfl hs (z0I λy hy hf=>I.ok.has _ (hfr y hy hf)) hkd (λy hy hl=>by rw[hnm y hy,hl]) (thn (hi pins s O H _ I h) λxv s₁ h₁=>thn h₁ λitv s₂ h₂=>?_);obtain⟨it,fp,tn,J,H2,e,I2,T,st2,f2,W,w0,z4d⟩:=h₂;subst e;refine z3H (N':=N') (mp:=mp) (O:=O) (pins:=pins) (Q:=Q) (RR:=λacc C=>compPost (model X.prog X.w) X.A X.xe none (EP X pins O Q) acc C) hc hg ht he hkd hnm hfr hmp I2 T st2 f2 W w0 z4d ?_;rintro acc C s' ⟨v,Hf,I3,r,q,⟨m,hm⟩,f⟩;exact⟨m,hm,λh' sb=>⟨v,Hf,z2I I3 f sb,r,q⟩⟩
end
end L2
set_option maxHeartbeats 4000000
namespace Dd
open L2
theorem z37(xs:List Expr)(k:Nat)(p:Pos)(es:List Expr)(env:Env):starEach (.Tuple xs k p::es) env=(false,eval (.Tuple xs k p) env)::starEach es env:=rfl
theorem z6h(xs:List Expr)(p:Pos)(es:List Expr)(env:Env):starEach (.List xs p::es) env=(false,eval (.List xs p) env)::starEach es env:=rfl
theorem xr(f:Expr)(xs:List Expr)(ks:List Keyword)(p:Pos)(es:List Expr)(env:Env):starEach (.Call f xs ks p::es) env=(false,eval (.Call f xs ks p) env)::starEach es env:=rfl
theorem z5P(a:Expr)(o:Operator)(b:Expr)(p:Pos)(es:List Expr)(env:Env):starEach (.BinOp a o b p::es) env=(false,eval (.BinOp a o b p) env)::starEach es env:=rfl
theorem z5U(a b:Expr)(p:Pos)(es:List Expr)(env:Env):starEach (.Subscript a b p::es) env=(false,eval (.Subscript a b p) env)::starEach es env:=rfl
theorem wJ(a:Expr)(g:List Comprehension)(sc:Scope)(p:Pos)(es:List Expr)(env:Env):starEach (.ListComp a g sc p::es) env=(false,eval (.ListComp a g sc p) env)::starEach es env:=rfl
theorem z2O(a:Expr)(o:List CmpOp)(b:List Expr)(p:Pos)(es:List Expr)(env:Env):starEach (.Compare a o b p::es) env=(false,eval (.Compare a o b p) env)::starEach es env:=rfl
theorem kN(c:Const)(j:Nat)(p:Pos)(es:List Expr)(env:Env):starEach (.Constant c j p::es) env=(false,eval (.Constant c j p) env)::starEach es env:=rfl
theorem zk(x:Str)(p:Pos)(es:List Expr)(env:Env):starEach (.Name x p::es) env=(false,eval (.Name x p) env)::starEach es env:=rfl
theorem z8g(o:UnaryOp)(a:Expr)(p:Pos)(es:List Expr)(env:Env):starEach (.UnaryOp o a p::es) env=(false,eval (.UnaryOp o a p) env)::starEach es env:=rfl
inductive D where | non | bl (b:Bool) | int (i:Int) | str (x:Str) | tup (xs:List D) | lst (xs:List D) | dct | loc (l:Nat) | dlo (l:Nat) | fn (x:Str) | exc (x:Str) | scr (xs:List D)
abbrev Sto:=List (List D)
abbrev Ev:=List (Option D)
inductive R(α:Type) where | ok (a:α)(s:Sto) | ex (c:Str)(s:Sto) | no
def R.bind{α β:Type}(r:R α)(k:α->Sto->R β):R β:=match r with
 | .ok a s=>k a s | .ex c s=>.ex c s | .no=>.no
@[simp] theorem R.bind_ok {α β:Type}(a:α)(s:Sto)(k:α->Sto->R β):(R.ok a s).bind k=k a s:=id rfl
abbrev Rb:=@R.bind_ok
@[simp] theorem R.bind_ex {α β:Type}(c:Str)(s:Sto)(k:α->Sto->R β):(R.ex c s:R α).bind k=.ex c s:=id rfl
def D.flat:D->Bool
 | .tup xs=>flats xs | .lst xs=>flats xs | .scr xs=>flats xs | .loc _=>false | .dlo _=>false | _=>true
where flats:List D->Bool
 | []=>true | x::xs=>x.flat&&flats xs
def z5R(C a:Addr):HO:=.ext λh=>∃o vs,h.get? a=some o/\o.cls=.ref C/\o.data=.fields vs
structure Gm where
 m:Str->Option Value
 K:W.Frag
abbrev gm(X:Cx):Gm:=⟨X.mg,X.K⟩
def IsL(H:Hp)(a:Addr):Prop:=∃vs,H a=some (.lst vs)
def IsC(H:Hp)(a:Addr):Prop:=(∃kvs,H a=some (.dT kvs))\/∃o kvs,H a=some (.frz o (.dT kvs))
theorem IsL.notC{H:Hp}{a:Addr}(h:IsL H a)(h':IsC H a):False:=by obtain⟨_,e⟩:=h;rcases h' with⟨_,e'⟩ | ⟨_,_,e'⟩<;>rw[e]at e'<;>cases e'
def zdk:Key->D
 | .inl i=>.int i | .inr x=>.str x
def zdn:V->Option D
 | .int i=>some (.int i) | .bl b=>some (.bl b) | _=>none
def zc9:List D->List (List Key×V)->Prop
 | [],kvs=>kvs=[] | d::ds,kvs=>∃k v x r,kvs=(k,v)::r/\zdn v=some x/\d=.tup [.tup (k.map zdk),x]/\zc9 ds r
def KL(K:W.Frag)(a:Addr)(xs:List V):Prop:=∃(o:Obj)(its:Array Value)(n:Nat),K.lookup a=some o/\o.cls=.type "list"/\o.dict=none/\o.data=.seq its n/\its.size<=sizeLine/\yt xs its.toList
section
variable (mg:Gm)
mutual
def Den(H:Hp)(Y:List Addr):D->V->Prop
 | .non,v=>v=.non | .bl b,v=>v=.bl b | .int i,v=>v=.int i | .str x,v=>v=.str x | .tup ds,v=>∃a vs,v=.ref a/\H a=some (.tup vs)/\zv H Y ds vs | .lst ds,v=>∃a o vs,v=.ref a/\H a=some (.frz o (.lst vs))/\zv H Y ds vs | .dct,v=>∃a,v=.ref a/\H a=some (.dK []) | .loc l,v=>∃a,v=.ref a/\Y[l]? = some a/\IsL H a | .dlo l,v=>∃a,v=.ref a/\Y[l]? = some a/\IsC H a | .fn x,v=>∃a,v=.ref a/\mg.m x=some (.ref a) | .exc x,v=>∃a C,v=.ref a/\mg.m x=some (.ref C)/\H a=some (z5R C a) | .scr ds,v=>∃a vs,v=.ref a/\((∃o,H a=some (.frz o (.lst vs)))\/KL mg.K a vs)/\zv H Y ds vs
def zv(H:Hp)(Y:List Addr):List D->List V->Prop
 | [],vs=>vs=[] | d::ds,vs=>∃v r,vs=v::r/\Den H Y d v/\zv H Y ds r
end
def wP(H:Hp)(Y:List Addr)(xs:List D)(a:Addr):Prop:=(∃vs,H a=some (.lst vs)/\zv mg H Y xs vs)\/(∃kvs,H a=some (.dT kvs)/\zc9 xs kvs)\/∃o kvs ys,H a=some (.frz o (.dT kvs))/\xs=.non::ys/\zc9 ys kvs
structure Rep(H:Hp)(Y:List Addr)(s:Sto):Prop where
 len:Y.length=s.length
 nd:Y.Nodup
 cell:∀(l:Nat)(xs:List D),s[l]? = some xs->∃a,Y[l]? = some a/\wP mg H Y xs a
 flat:∀xs∈s,D.flat.flats xs=true
structure yQ(H:Hp)(Y:List Addr)(H':Hp)(Y':List Addr)(s':Sto):Prop where
 rep:Rep mg H' Y' s'
 pre:Y <+: Y'
 keep:∀b o,H b=some o->b∉Y->H' b=some o
 new:∀a∈Y',a∉Y->H a=none
 mt:∀a∈Y,(IsL H a/\IsL H' a)\/(IsC H a/\IsC H' a/\∀o u,H a=some (.frz o u)->H' a=some (.frz o u))
end
section
variable {mg:Gm}{H H' H1 H2:Hp}{Y Y' Y1 Y2:List Addr}{s s' s1 s2:Sto}
theorem wP.kind{xs:List D}{a:Addr}(h:wP mg H Y xs a):IsL H a\/IsC H a:=h.imp (λ⟨vs,e,_⟩=>⟨vs,e⟩) λh=>h.imp (λ⟨k,e,_⟩=>⟨k,e⟩) λ⟨o,k,_,e,_⟩=>⟨o,k,e⟩
theorem Rep.mt(r:Rep mg H Y s):∀a∈Y,IsL H a\/IsC H a:=λa ha=>by
 obtain⟨l,hl,e⟩:=_ag.mp ha;have hl':l<s.length:=by rw[<- r.len];exact hl
 obtain⟨b,e1,c⟩:=r.cell l s[l] (_t hl');rw[_t hl]at e1;have:Y[l]=b:=_s e1;rw[<- e,this];exact c.kind
theorem Rep.at_(r:Rep mg H Y s){l:Nat}{xs:List D}{a:Addr}(h:s[l]? = some xs)(ha:Y[l]? = some a)(k:IsL H a):∃vs,H a=some (.lst vs)/\zv mg H Y xs vs:=by
 obtain⟨b,e1,c⟩:=r.cell l xs h;rw[ha]at e1;cases e1;rcases c with c | ⟨kvs,e,_⟩ | ⟨o,kvs,_,e,_⟩;·exact c
 ·exact (k.notC (.inl ⟨kvs,e⟩)).elim
 ·exact (k.notC (.inr ⟨o,kvs,e⟩)).elim
theorem yQ.refl(r:Rep mg H Y s):yQ mg H Y H Y s:=⟨r,_bz _,λ_ _ h _=>h,λa h1 h2=>absurd h1 h2,λa ha=>(r.mt a ha).imp (λh=>⟨h,h⟩) λh=>⟨h,h,λ_ _ q=>q⟩⟩
theorem yQ.trans(a:yQ mg H Y H1 Y1 s1)(b:yQ mg H1 Y1 H2 Y2 s2):yQ mg H Y H2 Y2 s2:=by
 refine⟨b.rep,a.pre.trans b.pre,λc o h n=>?_,λc h1 h2=>?_,λc hc=>?_⟩
 ·refine b.keep c o (a.keep c o h n) λz=>?_;rw[a.new c z n]at h;cases h
 ·by_cases h3:c∈Y1;·exact a.new c h3 h2
  ·cases e:H c with
   | none=>rfl | some o=>rw[<- b.new c h1 h3,a.keep c o e h2]
 ·have hc1:c∈Y1:=a.pre.subset hc;rcases a.mt c hc with⟨k1,k2⟩ | ⟨k1,k2,k3⟩
  ·rcases b.mt c hc1 with⟨_,q⟩ | ⟨q,_,_⟩;·exact .inl ⟨k1,q⟩
   ·exact (k2.notC q).elim
  ·rcases b.mt c hc1 with⟨q,_⟩ | ⟨_,q,q3⟩;·exact (q.notC k2).elim
   ·exact .inr ⟨k1,q,λo u z=>q3 o u (k3 o u z)⟩
theorem yQ.stay(stp:yQ mg H Y H' Y' s'){b:Addr}{o:HO}(h:H b=some o)(hn:∀vs,o≠.lst vs)(hn2:∀kvs,o≠.dT kvs:=by intro vs z;cases z):H' b=some o:=by
 by_cases hb:b∈Y
 ·rcases stp.mt b hb with⟨⟨vs,e⟩,_⟩ | ⟨⟨vs,e⟩ | ⟨p,vs,e⟩,_,q⟩
  ·rw[h]at e;exact absurd (_s e) (hn vs)
  ·rw[h]at e;exact absurd (_s e) (hn2 vs)
  ·rw[h]at e;cases e;exact q _ _ h
 ·exact stp.keep b o h hb
mutual
theorem Den.mono(stp:yQ mg H Y H' Y' s'):∀{d:D}{v:V},Den mg H Y d v->Den mg H' Y' d v
 | .non,_,h=>by simpa[Den] using h | .bl _,_,h=>by simpa[Den] using h | .int _,_,h=>by simpa[Den] using h | .str _,_,h=>by simpa[Den] using h | .tup ds,v,h=>by
  simp only[Den]at h ⊢;obtain⟨a,vs,e,h1,h2⟩:=h;exact⟨a,vs,e,stp.stay h1 (by intro vs z;cases z),zv.mono stp h2⟩ | .lst ds,v,h=>by
  simp only[Den]at h ⊢;obtain⟨a,o,vs,e,h1,h2⟩:=h;exact⟨a,o,vs,e,stp.stay h1 (by intro vs z;cases z),zv.mono stp h2⟩ | .dct,v,h=>by
  simp only[Den]at h ⊢;obtain⟨a,e,h1⟩:=h;exact⟨a,e,stp.stay h1 (by intro vs z;cases z)⟩ | .loc l,v,h=>by
  simp only[Den]at h ⊢;obtain⟨a,e,h1,k⟩:=h;obtain⟨t,ht⟩:=stp.pre;refine⟨a,e,?_,?_⟩
  ·rw[<- ht,_p (_b.mp h1).1];exact h1
  ·rcases stp.mt a (_r h1) with⟨_,q⟩ | ⟨q,_,_⟩;·exact q
   ·exact (k.notC q).elim | .dlo l,v,h=>by
  simp only[Den]at h ⊢;obtain⟨a,e,h1,k⟩:=h;obtain⟨t,ht⟩:=stp.pre;refine⟨a,e,?_,?_⟩
  ·rw[<- ht,_p (_b.mp h1).1];exact h1
  ·rcases stp.mt a (_r h1) with⟨q,_⟩ | ⟨_,q,_⟩;·exact (q.notC k).elim
   ·exact q | .fn _,_,h=>by simpa[Den] using h | .exc x,v,h=>by
  simp only[Den]at h ⊢;obtain⟨a,C,e,h1,h2⟩:=h;exact⟨a,C,e,h1,stp.stay h2 (by intro vs z;cases z)⟩ | .scr ds,v,h=>by
  simp only[Den]at h ⊢;obtain⟨a,vs,e,h1,h2⟩:=h;exact⟨a,vs,e,h1.imp (λ⟨o,h1⟩=>⟨o,stp.stay h1 (by intro vs z;cases z)⟩) id,zv.mono stp h2⟩
theorem zv.mono(stp:yQ mg H Y H' Y' s'):∀{ds:List D}{vs:List V},zv mg H Y ds vs->zv mg H' Y' ds vs
 | [],_,h=>by simpa[zv] using h | d::ds,vs,h=>by
  simp only[zv]at h ⊢;obtain⟨v,r,e,h1,h2⟩:=h;exact⟨v,r,e,Den.mono stp h1,zv.mono stp h2⟩
end
theorem zv.length:∀{ds:List D}{vs:List V},zv mg H Y ds vs->vs.length=ds.length
 | [],_,h=>by simp only[zv]at h;rw[h];rfl | d::ds,vs,h=>by
  simp only[zv]at h;obtain⟨v,r,rfl,_,h2⟩:=h;simp[zv.length h2]
theorem zv.get:∀{ds:List D}{vs:List V}{i:Nat}{d:D},zv mg H Y ds vs->ds[i]? = some d->∃v,vs[i]? = some v/\Den mg H Y d v
 | [],_,_,_,_,e=>by simp at e | d::ds,vs,0,d',h,e=>by
  simp only[zv]at h;obtain⟨v,r,rfl,h1,_⟩:=h;simp at e;subst e;exact⟨v,by simp,h1⟩ | d::ds,vs,i+1,d',h,e=>by
  simp only[zv]at h;obtain⟨v,r,rfl,_,h2⟩:=h;obtain⟨u,h3,h4⟩:=zv.get (i:=i) h2 (by simpa using e);exact⟨u,by simpa using h3,h4⟩
theorem zv.append:∀{ds es:List D}{vs us:List V},zv mg H Y ds vs->zv mg H Y es us->zv mg H Y (ds++es) (vs++us)
 | [],_,_,_,h,h'=>by simp only[zv]at h;subst h;simpa using h' | d::ds,_,_,_,h,h'=>by
  simp only[zv]at h;obtain⟨v,r,rfl,h1,h2⟩:=h;simp only[_bA,zv];exact⟨v,_,rfl,h1,zv.append h2 h'⟩
theorem zv.nil:zv mg H Y [] []:=by simp[zv]
theorem zv.cons {d:D} {ds:List D} {v:V} {vs:List V} (h:Den mg H Y d v) (h':zv mg H Y ds vs):zv mg H Y (d::ds) (v::vs):=by
 simp only[zv];exact⟨v,vs,rfl,h,h'⟩
theorem zv.one{d:D}{v:V}(h:Den mg H Y d v):zv mg H Y [d] [v]:=.cons h .nil
theorem zv.take:∀{ds:List D}{vs:List V}(n:Nat),zv mg H Y ds vs->zv mg H Y (ds.take n) (vs.take n)
 | ds,vs,0,h=>by simp[zv] | [],vs,n+1,h=>by simp only[zv]at h;subst h;simp[zv] | d::ds,vs,n+1,h=>by
  simp only[zv]at h;obtain⟨v,r,rfl,h1,h2⟩:=h;simp only[List.take_succ_cons];exact .cons h1 (zv.take n h2)
theorem zv.drop:∀{ds:List D}{vs:List V}(n:Nat),zv mg H Y ds vs->zv mg H Y (ds.drop n) (vs.drop n)
 | ds,vs,0,h=>by simpa using h | [],vs,n+1,h=>by simp only[zv]at h;subst h;simp[zv] | d::ds,vs,n+1,h=>by
  simp only[zv]at h;obtain⟨v,r,rfl,h1,h2⟩:=h;simpa using zv.drop n h2
theorem zv.set:∀{ds:List D}{vs:List V}{d:D}{v:V}(n:Nat),zv mg H Y ds vs->Den mg H Y d v->zv mg H Y (ds.set n d) (vs.set n v)
 | [],vs,_,_,n,h,_=>by simp only[zv]at h;subst h;simp[zv] | d::ds,vs,_,_,0,h,h'=>by
  simp only[zv]at h;obtain⟨v,r,rfl,h1,h2⟩:=h;simpa using zv.cons h' h2 | d::ds,vs,_,_,n+1,h,h'=>by
  simp only[zv]at h;obtain⟨v,r,rfl,h1,h2⟩:=h;simpa using zv.cons h1 (zv.set n h2 h')
mutual
theorem Den.flatten(k:∀b o,H b=some o->(∀vs,o≠.lst vs)->(∀kvs,o≠.dT kvs)->H' b=some o):∀{d:D}{v:V},d.flat=true->Den mg H Y d v->Den mg H' Y' d v
 | .non,_,_,h=>by simpa[Den] using h | .bl _,_,_,h=>by simpa[Den] using h | .int _,_,_,h=>by simpa[Den] using h | .str _,_,_,h=>by simpa[Den] using h | .tup ds,v,f,h=>by
  simp only[Den]at h ⊢;obtain⟨a,vs,e,h1,h2⟩:=h;exact⟨a,vs,e,k a _ h1 (by intro vs z;cases z) (by intro vs z;cases z),zv.flatten k (by simpa[D.flat] using f) h2⟩ | .lst ds,v,f,h=>by
  simp only[Den]at h ⊢;obtain⟨a,o,vs,e,h1,h2⟩:=h;exact⟨a,o,vs,e,k a _ h1 (by intro vs z;cases z) (by intro vs z;cases z),zv.flatten k (by simpa[D.flat] using f) h2⟩ | .dct,v,_,h=>by
  simp only[Den]at h ⊢;obtain⟨a,e,h1⟩:=h;exact⟨a,e,k a _ h1 (by intro vs z;cases z) (by intro vs z;cases z)⟩ | .loc l,v,f,h=>by simp[D.flat]at f | .dlo l,v,f,h=>by simp[D.flat]at f | .fn _,_,_,h=>by simpa[Den] using h | .exc x,v,_,h=>by
  simp only[Den]at h ⊢;obtain⟨a,C,e,h1,h2⟩:=h;exact⟨a,C,e,h1,k a _ h2 (by intro vs z;cases z) (by intro vs z;cases z)⟩ | .scr ds,v,f,h=>by
  simp only[Den]at h ⊢;obtain⟨a,vs,e,h1,h2⟩:=h;exact⟨a,vs,e,h1.imp (λ⟨o,h1⟩=>⟨o,k a _ h1 (by intro vs z;cases z) (by intro vs z;cases z)⟩) id,zv.flatten k (by simpa[D.flat] using f) h2⟩
theorem zv.flatten(k:∀b o,H b=some o->(∀vs,o≠.lst vs)->(∀kvs,o≠.dT kvs)->H' b=some o):∀{ds:List D}{vs:List V},D.flat.flats ds=true->zv mg H Y ds vs->zv mg H' Y' ds vs
 | [],_,_,h=>by simpa[zv] using h | d::ds,vs,f,h=>by
  simp only[zv]at h ⊢;simp only[D.flat.flats,_q]at f;obtain⟨v,r,e,h1,h2⟩:=h;exact⟨v,r,e,Den.flatten k f.1 h1,zv.flatten k f.2 h2⟩
end
end
def okR{α β:Type}(mg:Gm)(E:XK)(H:Hp)(Y:List Addr)(Dn:Hp->List Addr->α->β->Prop)(r:R α)(Q:β->Hp->Prop):Prop:=match r with
 | .ok a s'=>∀b H' Y',yQ mg H Y H' Y' s'->Dn H' Y' a b->Q b H' | .ex c s'=>∀H' Y' C,yQ mg H Y H' Y' s'->mg.m c=some (.ref C)->E (.ref C) none H' | .no=>False
section
variable {α β α2 β2:Type}{mg:Gm}{E:XK}{H H' H1 H2:Hp}{Y Y' Y1 Y2:List Addr}{s s' s1 s2:Sto}{Dn:Hp->List Addr->α->β->Prop}{Dn2:Hp->List Addr->α2->β2->Prop}
theorem okR.rebase{r:R α}{Q:β->Hp->Prop}(h:okR mg E H Y Dn r Q)(stp:yQ mg H Y H1 Y1 s1):okR mg E H1 Y1 Dn r Q:=by cases r with
 | ok a s'=>exact λb H' Y' stp'=>h b H' Y' (stp.trans stp') | ex c s'=>exact λH' Y' C stp'=>h H' Y' C (stp.trans stp') | no=>exact h
theorem okR.bind{r:R α}{k:α->Sto->R α2}{Q:β2->Hp->Prop}(h:okR mg E H Y Dn2 (r.bind k) Q): okR mg E H Y Dn r (λb H1=>∃Y1 s1 a,yQ mg H Y H1 Y1 s1/\Dn H1 Y1 a b/\okR mg E H1 Y1 Dn2 (k a s1) Q):=by cases r with
 | ok a s'=>exact λb H' Y' stp dn=>⟨Y',s',a,stp,dn,okR.rebase h stp⟩ | ex c s'=>exact h | no=>exact h
theorem okR.imp{r:R α}{Q Q':β->Hp->Prop}(h:okR mg E H Y Dn r Q)(i:∀b H',Q b H'->Q' b H'):okR mg E H Y Dn r Q':=by cases r with
 | ok a s'=>exact λb H' Y' stp dn=>i b H' (h b H' Y' stp dn) | ex c s'=>exact h | no=>exact h
theorem okR.here{a:α}{Q:β->Hp->Prop}{b:β}(h:okR mg E H Y Dn (.ok a s) Q)(r:Rep mg H Y s)(d:Dn H Y a b):Q b H:=h b H Y (.refl r) d
end
structure wQ(mg:Gm)(H:Hp)(Y:List Addr)(Z:Ev)(O:L2.St):Prop where
 len:Z.length=O.length
 at_:∀(i:Nat)(d:D),Z[i]? = some (some d)->∃v,O[i]? = some (some v)/\Den mg H Y d v
theorem wQ.mono{mg:Gm}{H H':Hp}{Y Y':List Addr}{s':Sto}{Z:Ev}{O:L2.St}(e:wQ mg H Y Z O)(stp:yQ mg H Y H' Y' s'):wQ mg H' Y' Z O:= ⟨e.len,λi d h=>let ⟨v,h1,h2⟩:=e.at_ i d h;⟨v,h1,h2.mono stp⟩⟩
theorem wQ.set{mg:Gm}{H:Hp}{Y:List Addr}{Z:Ev}{O:L2.St}{d:D}{v:V}(e:wQ mg H Y Z O)(h:Den mg H Y d v)(i:Nat):wQ mg H Y (Z.set i (some d)) (O.set i (some v)):=by
 refine⟨by simp[e.len],λj d' hj=>?_⟩;by_cases hij:i=j
 ·subst hij;have hi:i<Z.length:=by
   have:=(_b.mp hj).1;simpa using this
  rw[_w hi]at hj;cases hj;exact⟨v,by rw[_w (by rw[<- e.len];exact hi)],h⟩
 ·rw[_y hij]at hj ⊢;exact e.at_ j d' hj
abbrev FE:=Ev->Sto->R D
abbrev FT:=Ev->Sto->R Bool
abbrev FA:=Ev->Sto->R (List D)
inductive Fl where | nx (Z:Ev) | rt (d:D) | bk (Z:Ev) | ct (Z:Ev)
inductive FlV where | nx (O:L2.St) | rt (v:V) | bk (O:L2.St) | ct (O:L2.St)
abbrev FS:=Ev->Sto->R Fl
def FlD(mg:Gm)(H:Hp)(Y:List Addr):Fl->FlV->Prop
 | .nx Z,.nx O=>wQ mg H Y Z O | .rt d,.rt v=>Den mg H Y d v | .bk Z,.bk O=>wQ mg H Y Z O | .ct Z,.ct O=>wQ mg H Y Z O | _,_=>False
def z0q(D:z82):FlV->Hp->Prop
 | .nx O,H=>D.nx O H | .rt v,H=>D.rt v H | .bk O,H=>D.bk O H | .ct O,H=>D.ct O H
def bD(_:Hp)(_:List Addr)(a b:Bool):Prop:=a=b
def tE(mg:Gm)(E:XK)(f:FE):TE:=λO H Q=>∃Y Z s,Rep mg H Y s/\wQ mg H Y Z O/\okR mg E H Y (Den mg) (f Z s) Q
def tT(mg:Gm)(E:XK)(f:FT):TT:=λO H Q=>∃Y Z s,Rep mg H Y s/\wQ mg H Y Z O/\okR mg E H Y bD (f Z s) Q
def tA(mg:Gm)(E:XK)(f:FA):TA:=λO H Q=>∃Y Z s,Rep mg H Y s/\wQ mg H Y Z O/\okR mg E H Y (zv mg) (f Z s) Q
def tS(mg:Gm)(E:XK)(f:FS):TS:=λD O H=>∃Y Z s,Rep mg H Y s/\wQ mg H Y Z O/\okR mg E H Y (FlD mg) (f Z s) (z0q D)
def RE(X:Cx)(E:XK)(e:Expr)(f:FE):Prop:=PE X e (tE (gm X) E f)
def RT(X:Cx)(E:XK)(e:Expr)(f:FT):Prop:=PT X e (tT (gm X) E f)
def RA(X:Cx)(E:XK)(es:List Expr)(f:FA):Prop:=PA X es (tA (gm X) E f)
def RS(X:Cx)(E:XK)(st:Stmt)(f:FS):Prop:=PS X st (tS (gm X) E f)
def RSs(X:Cx)(E:XK)(st:List Stmt)(f:FS):Prop:=PSs X st (tS (gm X) E f)
section
variable {X:Cx}{E:XK}{e a b c:Expr}{es:List Expr}{pos:Pos}
theorem zF{t t':TE}(h:PE X e t)(i:∀O H Q,t' O H Q->t O H Q):PE X e t':=λpins s O H Q I q=>h pins s O H Q I (i O H Q q)
theorem z58{t t':TT}(h:PT X e t)(i:∀O H Q,t' O H Q->t O H Q):PT X e t':=λpins s O H Q I q=>h pins s O H Q I (i O H Q q)
theorem z6Y{t t':TA}(h:PA X es t)(i:∀O H Q,t' O H Q->t O H Q):PA X es t':=λpos pins s O H Q I q=>h pos pins s O H Q I (i O H Q q)
theorem js{st:Stmt}{t t':TS}(h:PS X st t)(i:∀D O H,t' D O H->t D O H):PS X st t':=λpins s O H D I q=>h pins s O H D I (i D O H q)
theorem z4X{st:List Stmt}{t t':TS}(h:PSs X st t)(i:∀D O H,t' D O H->t D O H):PSs X st t':=λpins s O H D I q=>h pins s O H D I (i D O H q)
theorem zX{α β:Type}{Dn:Hp->List Addr->α->β->Prop}{mg:Gm}{f:FE}{k:Ev->D->Sto->R α}{O:L2.St}{H:Hp}{Q:β->Hp->Prop}{Y:List Addr}{Z:Ev}{s:Sto}(r:Rep mg H Y s)(en:wQ mg H Y Z O) (h:okR mg E H Y Dn ((f Z s).bind (k Z)) Q)(K:V->Hp->Prop) (hK:∀v H1 Y1 s1 d,Rep mg H1 Y1 s1->wQ mg H1 Y1 Z O->Den mg H1 Y1 d v->yQ mg H Y H1 Y1 s1->okR mg E H1 Y1 Dn (k Z d s1) Q->K v H1):tE mg E f O H K:= ⟨Y,Z,s,r,en,(okR.bind (Dn:=Den mg) h).imp λv H1 ⟨Y1,s1,d,stp,dn,q⟩=>hK v H1 Y1 s1 d stp.rep (en.mono stp) dn stp q⟩
theorem jI{α β:Type}{Dn:Hp->List Addr->α->β->Prop}{mg:Gm}{f:FT}{k:Ev->Bool->Sto->R α}{O:L2.St}{H:Hp}{Q:β->Hp->Prop}{Y:List Addr}{Z:Ev}{s:Sto}(r:Rep mg H Y s)(en:wQ mg H Y Z O) (h:okR mg E H Y Dn ((f Z s).bind (k Z)) Q)(K:Bool->Hp->Prop) (hK:∀v H1 Y1 s1,Rep mg H1 Y1 s1->wQ mg H1 Y1 Z O->yQ mg H Y H1 Y1 s1->okR mg E H1 Y1 Dn (k Z v s1) Q->K v H1):tT mg E f O H K:= ⟨Y,Z,s,r,en,(okR.bind (Dn:=bD) h).imp λv H1 ⟨Y1,s1,d,stp,dn,q⟩=>hK v H1 Y1 s1 stp.rep (en.mono stp) stp (by cases (show d=v from dn);exact q)⟩
theorem wX{α β:Type}{Dn:Hp->List Addr->α->β->Prop}{mg:Gm}{f:FA}{k:Ev->List D->Sto->R α}{O:L2.St}{H:Hp}{Q:β->Hp->Prop}{Y:List Addr}{Z:Ev}{s:Sto}(r:Rep mg H Y s)(en:wQ mg H Y Z O) (h:okR mg E H Y Dn ((f Z s).bind (k Z)) Q)(K:List V->Hp->Prop) (hK:∀v H1 Y1 s1 d,Rep mg H1 Y1 s1->wQ mg H1 Y1 Z O->zv mg H1 Y1 d v->yQ mg H Y H1 Y1 s1->okR mg E H1 Y1 Dn (k Z d s1) Q->K v H1):tA mg E f O H K:= ⟨Y,Z,s,r,en,(okR.bind (Dn:=zv mg) h).imp λv H1 ⟨Y1,s1,d,stp,dn,q⟩=>hK v H1 Y1 s1 d stp.rep (en.mono stp) dn stp q⟩
def zc(i:Nat):FE:=λZ s=>match Z[i]? with | some (some d)=>.ok d s | _=>.no
theorem zb(i:Nat){x:Str}(hN:X.N[i]? = some x:=by rfl)(hv:Vis X.env.scope x:=by first | exact Or.inl rfl | exact Or.inr (Or.inl rfl) | exact Or.inr (Or.inr rfl))(hd:(x==("__debug__":Str))=false:=by decide) (hcd:(x==("__classdict__":Str))=false:=by decide):RE X E (.Name x pos) (zc i):= zF (z9J hN hv hd hcd) λO H Q ⟨Y,Z,s,r,en,h⟩=>by
  unfold zc at h;split at h
  ·rename_i d hd;obtain⟨v,h1,h2⟩:=en.at_ i d hd;exact⟨v,h1,h.here r h2⟩
  ·exact h.elim
def eC(d:D):FE:=λ_ s=>.ok d s
theorem zm{i:Int}{j:Nat}:RE X E (.Constant (.int i) j pos) (eC (.int i)):=zF zaL λO H Q ⟨Y,Z,s,r,en,h⟩=>okR.here (b:=V.int i) h r (by simp[Den])
theorem z1L{i:Bool}{j:Nat}:RE X E (.Constant (.bool i) j pos) (eC (.bl i)):=zF zbO λO H Q ⟨Y,Z,s,r,en,h⟩=>okR.here (b:=V.bl i) h r (by simp[Den])
theorem z8w{j:Nat}:RE X E (.Constant .none j pos) (eC .non):=zF zaa λO H Q ⟨Y,Z,s,r,en,h⟩=>okR.here (b:=V.non) h r (by simp[Den])
theorem zB{i:Str}{j:Nat}:RE X E (.Constant (.str i) j pos) (eC (.str i)):=zF z76 λO H Q ⟨Y,Z,s,r,en,h⟩=>okR.here (b:=V.str i) h r (by simp[Den])
theorem zab{x:Str}{i:Int}{t:Tok}(hg:Gl X x)(hm:X.mg x=some (.int i t))(hd:(x==("__debug__":Str))=false:=by decide):RE X E (.Name x pos) (eC (.int i)):= zF (z0u hg hm (show yP (.int i) (.int i t) from⟨t,rfl⟩) hd) λO H Q ⟨Y,Z,s,r,en,h⟩=>okR.here (b:=V.int i) h r (by simp[Den])
def OpF(X:Cx)(E:XK)(r:R2)(op:D->D->Sto->R D):Prop:= ∀H Y s d1 d2 v1 v2 (Q:VK),Rep (gm X) H Y s->Den (gm X) H Y d1 v1->Den (gm X) H Y d2 v2->okR (gm X) E H Y (Den (gm X)) (op d1 d2 s) Q->r v1 v2 H Q
def eOp(op:D->D->Sto->R D)(fa fb:FE):FE:=λZ s=>(fa Z s).bind λx s1=>(fb Z s1).bind λy s2=>op x y s2
theorem z1R{r:R2}{op:D->D->Sto->R D}{fa fb:FE}(ho:OpF X E r op){O:L2.St}{H:Hp}{Q:VK}(h:tE (gm X) E (eOp op fa fb) O H Q):tOp r (tE (gm X) E fa) (tE (gm X) E fb) O H Q:=by
 obtain⟨Y,Z,s,r',en,h⟩:=h;refine zX (k:=λZ x s1=>(fb Z s1).bind λy s2=>op x y s2) r' en h _ λv H1 Y1 s1 d r1 en1 dn stp h1=>?_;refine zX (k:=λZ y s2=>op d y s2) r1 en1 h1 _ λv2 H2 Y2 s2 d2 r2 en2 dn2 St2 h2=>?_;exact ho H2 Y2 s2 d d2 v v2 Q r2 (dn.mono St2) dn2 h2
theorem zcW{op:Operator}{r:R2}{fo:D->D->Sto->R D}{fa fb:FE}(ho:OpR X (binaryOp op) r/\OpF X E r fo)(ha:RE X E a fa)(hb:RE X E b fb):RE X E (.BinOp a op b pos) (eOp fo fa fb):= zF (zb5 ho.1 ha hb) λO H Q h=>z1R ho.2 h
theorem zb6{op:CmpOp}{r:R2}{fo:D->D->Sto->R D}{fa fb:FE}(ho:OpR X (compareOp op) r/\OpF X E r fo)(ha:RE X E a fa)(hb:RE X E b fb)(hm:behindInMarks op b=false):RE X E (.Compare a [op] [b] pos) (eOp fo fa fb):= zF (z8s ho.1 ha hb hm) λO H Q h=>z1R ho.2 h
end
end Dd
namespace L2
theorem Inv.freeze {X:Cx} {pins:List (Addr×Obj)} {O:L2.St} {H:Hp} {s:Shared} {a:Addr} {u:HO} {o:Obj} (I:Inv X pins O H s) (h:H a=some u) (e:s.heap.get? a=some o) (hu:∀xs,u≠.tup xs) (hf:∀o v,u≠.frz o v) (ht:∀ps,u≠.tbl ps) (ho:∀y,u≠.own y): Inv X pins O (upd H a (.frz o u)) s:=by
 have ne:∀{b:Addr} {v:HO},H b=some v->v≠u->b≠a:=λ{b v} hb hv z=>by subst z;rw[h]at hb;exact hv (_s hb).symm
 have stay:∀b v,yF X.prog X.w H s.heap b v->yF X.prog X.w (upd H a (.frz o u)) s.heap b v:=λb v q=> q.stay (λ_ _ _ q=>q) (λc q=>by rw[zu (ne q (λz=>ho b z.symm))];exact q) λc xs q=>by rw[zu (ne q (λz=>hu xs z.symm))];exact q
 have hok:HOk X.prog X.w (upd H a (.frz o u)) s.heap:=λb v q=>by
  by_cases hb:b=a
  ·subst hb;rw[ya]at q;cases q;exact⟨e,stay b u (I.hok b u h)⟩
  ·rw[zu hb]at q;exact stay b v (I.hok b v q)
 exact I.step (h':=s.heap) (g':=s.gens) (d':=s.drawn) (t':=s.toks) (ch:=[]) (λb hb=>absurd hb (by simp)) (λb o _ _ _ e _=>e) (λb o _ _ _ e _=>⟨o.slots,e⟩) (λb v _ _ n=>by rw[zu (λz=>by subst z;rw[h]at n;cases n)];exact n) (λb o _ e=>⟨o,e⟩) (λb xs q=>by rw[zu (ne q (λz=>hu xs z.symm))];exact q) (λb o' v q=>by rw[zu (ne q (λz=>hf o' v z.symm))];exact q) (λb ps q=>⟨#[],by rw[zu (ne q (λz=>ht ps z.symm)),q];simp⟩) (λ_ q=>q) hok I.bare
def z7L(Q:VK):VK:=λv H=>∃a xs,v=.ref a/\H a=some (.lst xs)/\∀o,Q v (upd H a (.frz o (.lst xs)))
theorem EP.freeze{X:Cx}{pins:List (Addr×Obj)}{O:L2.St}{Q:VK}{u:Value}{s:Shared}(h:EP X pins O (z7L Q) u s):EP X pins O Q u s:=by
 obtain⟨v,H',I,r,a,xs,rfl,ha,q⟩:=h;obtain⟨its,n,rv,e,_⟩:=I.lst ha;exact⟨_,_,I.freeze ha e (by intro _ z;cases z) (by intro _ _ z;cases z) (by intro _ z;cases z) (by intro _ z;cases z),r,q _⟩
theorem OpR.freeze{X:Cx}{f:Value->Value->Sem Value}{r:R2}(h:OpR X f r):OpR X f (λx y H Q=>r x y H (z7L Q)):=λpins s O H x y v u Q I rx ry q=>thn (h pins s O H x y v u _ I rx ry q) λ_ _ z=>z.freeze
theorem yB.freeze{X:Cx}{f:Value}{r:List V->Hp->VK->Prop}(h:yB X f r):yB X f (λxs H Q=>r xs H (z7L Q)):=λpins s O H xs us Q I rs q=>thn (h pins s O H xs us _ I rs q) λ_ _ z=>z.freeze
theorem PE.freeze{X:Cx}{e:Expr}{t:TE}(h:PE X e t):PE X e (λO H Q=>t O H (z7L Q)):=λpins s O H Q I q=>thn (h pins s O H _ I q) λ_ _ z=>z.freeze
theorem SlR.freeze{X:Cx}{r:V->Option Int->Option Int->Hp->VK->Prop}(h:SlR X r):SlR X (λx lo hi H Q=>r x lo hi H (z7L Q)):=λpins s O H x v vl vu lo hi sl Q I rx hs pl pu q=>by
 obtain⟨T,id,h1,h2,h3⟩:=h pins s O H x v vl vu lo hi sl _ I rx hs pl pu q;exact⟨T,id,h1,h2,thn h3 λ_ _ z=>z.freeze⟩
section
variable {X:Cx}
theorem z7n:OpR X (binaryOp .Add) (λx y H Q=>∃l b xs zs,x=.ref l/\y=.ref b/\Rd H l (.lst xs)/\Rd H b (.lst zs)/\xs.length+zs.length<=sizeLine/\∀p,H p=none->Q (.ref p) (upd H p (.lst (xs++zs)))):=by
 intro pins s O H x y v u Q I rx ry h;obtain⟨l,b,xs,zs,rfl,rfl,hH,hB,hz,q⟩:=h;cases rx;cases ry;obtain⟨z,its,n,r,e⟩:=hH.ok I.hok;obtain⟨z2,its2,n2,r2,e2⟩:=hB.ok I.hok;have hl:=r.length;have hl2:=r2.length;refine PySem.P.add_list e e2 ?_ (by rw[_j,_j];omega);have ea:its.toArray++its2.toArray=(its++its2).toArray:=by simp
 rw[ea];exact⟨.ref _,_,I.lnew (t':=s.toks) (r.append r2) (by rw[_aj];omega),rfl,q _ I.fresh⟩
end
section
variable {X:Cx}
theorem z6e:OpR X (binaryOp .Add) (λx y H Q=>∃a b ys,x=.ref a/\y=.ref b/\SqT X.K H a []/\SqT X.K H b ys/\Q (.ref b) H):=by
 intro pins s O H x y v u Q I rx ry h;obtain⟨a,b,ys,rfl,rfl,ha,hb,q⟩:=h;cases rx;cases ry;obtain⟨its,r1,p1,_⟩:=I.tuple ha;obtain⟨its2,r2,p2,_⟩:=I.tuple hb;cases r1;obtain⟨⟨cls,dd,data,sl⟩,ho,hc,n,hd⟩:=id p1;obtain⟨⟨cls2,dd2,data2,sl2⟩,ho2,hc2,n2,hd2⟩:=id p2;simp only at hc hd hc2 hd2;subst hc hd hc2 hd2;exact concat_meets ⟨_,ho,rfl⟩ ⟨_,ho2,rfl⟩ _bx seq_tuple_add _aR _aP (_aH _ _) (tuple_addW0 a b _ _ n n2 dd dd2 sl sl2 (by simp)) ⟨ho,ho2,⟨.ref b,H,I,rfl,q⟩⟩
theorem z8B:SlR X (λx lo hi H Q=>∃a xs,x=.ref a/\SqT X.K H a xs/\(HT.sIx xs.length 0 lo=0/\HT.sIx xs.length xs.length hi=xs.length)/\Q (.ref a) H):=by
 intro pins s O H x v vl vu lo hi sl Q I rx hs pl pu h;obtain⟨a,xs,rfl,hx,hw,q⟩:=h;cases rx;obtain⟨its,r,ht,hz⟩:=I.tuple hx;have hlen:its.toArray.size=xs.length:=by rw[_j];exact r.length.symm
 refine⟨"tuple",_,_C.lookup,ht.typeIs,?_⟩;obtain⟨os,hos,hcs,hds⟩:=id hs;have hTs:s.TypeIs (.ref sl) "slice":=⟨os,hos,hcs⟩;obtain⟨oa,hoa,hca,na,hda⟩:=id ht;unfold getItem;try with_reducible refine _a0 ?_
 first | refine _a (_k ?_) | skip
 refine _a (wpAny_sequenceKey ht.typeIs (by decide) ?_);refine _a (_Y (name:=Str.ofString "__getitem__") ht.typeIs _C (_at _C ht.typeIs entry_tuple_getitem ?_ (args_tuple_getitem _ _)));show wpAny _ _ (Builtin.Tuple.tupleItemsOf (.ref a) >>= _) _ _ s;refine _a (tupleItemsOf_ ht ?_);refine _a (wpAny_typeOf hTs ?_);rw[_f (by decide)];refine _a (HT.vw hs pl pu ?_);rw[hlen,hw.1,hw.2];show wpAny _ _ (if (((0:Nat):Int)==0&&(1:Int)==1&&(xs.length-0)==xs.length)=true then _ else _) _ _ s;rw[_f (by simp)];have hTa:s.TypeIs (.ref a) "tuple":=ht.typeIs;have fin:EP X pins O Q (.ref a) s:=⟨.ref a,H,I,rfl,q⟩;unfold Builtin.Tuple.tupleIsExact;refine _a (_a (wpAny_typeOf hTa (_k ?_)));rw[_f (by decide)];exact _a (wpAny_rule (_k ⟨_,rfl,_k fin⟩))
end
end L2
namespace Dd
open L2
section
variable {mg:Gm}{H H' H1 H2:Hp}{Y Y' Y1 Y2:List Addr}{s s' s1 s2:Sto}
structure Kp(H H':Hp):Prop where
 k:∀b o,H b=some o->(∀vs,o≠.lst vs)->(∀kvs,o≠.dT kvs)->H' b=some o
 l:∀a,IsL H a->IsL H' a
 c:∀a,IsC H a->IsC H' a
mutual
theorem Den.gen(k:Kp H H')(hi:∀(l:Nat) a,Y[l]? = some a->Y'[l]? = some a):∀{d:D}{v:V},Den mg H Y d v->Den mg H' Y' d v
 | .non,_,h=>by simpa[Den] using h | .bl _,_,h=>by simpa[Den] using h | .int _,_,h=>by simpa[Den] using h | .str _,_,h=>by simpa[Den] using h | .tup ds,v,h=>by
  simp only[Den]at h ⊢;obtain⟨a,vs,e,h1,h2⟩:=h;exact⟨a,vs,e,k.k a _ h1 (by intro vs z;cases z) (by intro vs z;cases z),zv.gen k hi h2⟩ | .lst ds,v,h=>by
  simp only[Den]at h ⊢;obtain⟨a,o,vs,e,h1,h2⟩:=h;exact⟨a,o,vs,e,k.k a _ h1 (by intro vs z;cases z) (by intro vs z;cases z),zv.gen k hi h2⟩ | .dct,v,h=>by
  simp only[Den]at h ⊢;obtain⟨a,e,h1⟩:=h;exact⟨a,e,k.k a _ h1 (by intro vs z;cases z) (by intro vs z;cases z)⟩ | .loc l,v,h=>by
  simp only[Den]at h ⊢;obtain⟨a,e,h1,q⟩:=h;exact⟨a,e,hi l a h1,k.l a q⟩ | .dlo l,v,h=>by
  simp only[Den]at h ⊢;obtain⟨a,e,h1,q⟩:=h;exact⟨a,e,hi l a h1,k.c a q⟩ | .fn _,_,h=>by simpa[Den] using h | .exc x,v,h=>by
  simp only[Den]at h ⊢;obtain⟨a,C,e,h1,h2⟩:=h;exact⟨a,C,e,h1,k.k a _ h2 (by intro vs z;cases z) (by intro vs z;cases z)⟩ | .scr ds,v,h=>by
  simp only[Den]at h ⊢;obtain⟨a,vs,e,h1,h2⟩:=h;exact⟨a,vs,e,h1.imp (λ⟨o,h1⟩=>⟨o,k.k a _ h1 (by intro vs z;cases z) (by intro vs z;cases z)⟩) id,zv.gen k hi h2⟩
theorem zv.gen(k:Kp H H')(hi:∀(l:Nat) a,Y[l]? = some a->Y'[l]? = some a):∀{ds:List D}{vs:List V},zv mg H Y ds vs->zv mg H' Y' ds vs
 | [],_,h=>by simpa[zv] using h | d::ds,vs,h=>by
  simp only[zv]at h ⊢;obtain⟨v,r,e,h1,h2⟩:=h;exact⟨v,r,e,Den.gen k hi h1,zv.gen k hi h2⟩
end
theorem vO{p:Addr}{o:HO}(hp:H p=none):∀b u,H b=some u->upd H p o b=some u:=λb u h=>by rw[zu (yf h hp)];exact h
theorem Kp.new{p:Addr}{o:HO}(hp:H p=none):Kp H (upd H p o):=⟨λb u h _ _=>vO hp b u h,λa ⟨vs,e⟩=>⟨vs,vO hp a _ e⟩,λa h=>h.imp (λ⟨vs,e⟩=>⟨vs,vO hp a _ e⟩) λ⟨o,vs,e⟩=>⟨o,vs,vO hp a _ e⟩⟩
theorem Kp.putL{a:Addr}{vs:List V}(h:IsL H a):Kp H (upd H a (.lst vs)):=by
 obtain⟨ws,e⟩:=h;have ne:∀{b u},H b=some u->(∀vs,u≠.lst vs)->b≠a:=λ{b u} q n z=>by subst z;rw[e]at q;exact n ws (_s q).symm
 refine⟨λb o q n1 n2=>by rw[zu (ne q n1)];exact q,λb ⟨us,q⟩=>?_,λb h=>?_⟩
 ·by_cases z:b=a;·subst z;exact⟨vs,ya⟩
  ·exact⟨us,by rw[zu z];exact q⟩
 ·rcases h with⟨us,q⟩ | ⟨o,us,q⟩;·exact .inl ⟨us,by rw[zu (ne q (by intro _ z;cases z))];exact q⟩
  ·exact .inr ⟨o,us,by rw[zu (ne q (by intro _ z;cases z))];exact q⟩
theorem wP.gen{xs:List D}{a:Addr}(k:Kp H H')(hi:∀(l:Nat) a,Y[l]? = some a->Y'[l]? = some a)(e:H' a=H a)(h:wP mg H Y xs a):wP mg H' Y' xs a:=by
 rcases h with⟨vs,h1,h2⟩ | ⟨kvs,h1,h2⟩ | ⟨o,kvs,ys,h1,h2⟩;·exact .inl ⟨vs,e.trans h1,h2.gen k hi⟩
 ·exact .inr (.inl ⟨kvs,e.trans h1,h2⟩)
 ·exact .inr (.inr ⟨o,kvs,ys,e.trans h1,h2⟩)
theorem wP.ne{xs:List D}{a p:Addr}(h:wP mg H Y xs a)(hp:H p=none):a≠p:=by
 rintro rfl;rcases h.kind with⟨_,e⟩ | ⟨_,e⟩ | ⟨_,_,e⟩<;>rw[hp]at e<;>cases e
theorem Rep.notin{p:Addr}(r:Rep mg H Y s)(hp:H p=none):p∉Y:=λz=>by rcases r.mt p z with⟨_,e⟩ | ⟨_,e⟩ | ⟨_,_,e⟩<;>rw[hp]at e<;>cases e
theorem yQ.lay{p:Addr}{o:HO}(r:Rep mg H Y s)(hp:H p=none)(ho:∀vs,o≠.lst vs):yQ mg H Y (upd H p o) Y s:= ⟨⟨r.len,r.nd,λl xs h=>let ⟨a,h1,h2⟩:=r.cell l xs h;⟨a,h1,h2.gen (.new hp) (λ_ _ q=>q) (zu (h2.ne hp))⟩,r.flat⟩,_bz _,λb u h _=>vO hp b u h,λa h1 h2=>absurd h1 h2,λa ha=>(r.mt a ha).imp (λh=>⟨h,(Kp.new hp).l a h⟩) λh=>⟨h,(Kp.new hp).c a h,λ_ _ e=>vO hp a _ e⟩⟩
theorem yQ.layC{p:Addr}{o:HO}{xs:List D}(r:Rep mg H Y s)(hp:H p=none)(hc:wP mg (upd H p o) (Y++[p]) xs p)(hf:D.flat.flats xs=true):yQ mg H Y (upd H p o) (Y++[p]) (s++[xs]):=by
 have pn:p∉Y:=r.notin hp;have hi:∀(l:Nat) a,Y[l]? = some a->(Y++[p])[l]? = some a:=λl a h=>by rw[_p (_b.mp h).1];exact h
 refine⟨⟨by simp[r.len],?_,λl ys h=>?_,λys h=>?_⟩,List.prefix_append _ _,λb u h _=>vO hp b u h,λa h1 h2=>?_,λa ha=>(r.mt a ha).imp (λh=>⟨h,(Kp.new hp).l a h⟩) λh=>⟨h,(Kp.new hp).c a h,λ_ _ e=>vO hp a _ e⟩⟩
 ·rw[List.nodup_append];exact⟨r.nd,by simp,λa ha b hb=>by
   have:b=p:=by simpa using hb
   subst this;exact λz=>pn (z ▸ ha)⟩
 ·by_cases hl:l<s.length
  ·rw[_p hl]at h;obtain⟨a,h1,h2⟩:=r.cell l ys h;exact⟨a,hi l a h1,h2.gen (.new hp) hi (zu (h2.ne hp))⟩
  ·have h0:l=s.length:=by
    have:=(_b.mp h).1;simp at this;omega
   subst h0;simp at h;subst h;exact⟨p,by rw[<- r.len];simp,hc⟩
 ·rcases _F.mp h with h | h;·exact r.flat ys h
  ·have:ys=xs:=by simpa using h
   rw[this];exact hf
 ·rcases _F.mp h1 with h | h;·exact absurd h h2
  ·have:a=p:=by simpa using h
   rw[this];exact hp
theorem yQ.layL{p:Addr}{xs:List D}{vs:List V}(r:Rep mg H Y s)(hp:H p=none)(hd:zv mg H Y xs vs)(hf:D.flat.flats xs=true):yQ mg H Y (upd H p (.lst vs)) (Y++[p]) (s++[xs]):= yQ.layC r hp (.inl ⟨vs,ya,hd.gen (.new hp) λl a h=>by rw[_p (_b.mp h).1];exact h⟩) hf
theorem yQ.putC{l:Nat}{a:Addr}{o:HO}{xs:List D}(r:Rep mg H Y s)(ha:Y[l]? = some a)(k:Kp H (upd H a o))(hc:wP mg (upd H a o) Y xs a)(hf:D.flat.flats xs=true):yQ mg H Y (upd H a o) Y (s.set l xs):=by
 have hai:a∈Y:=_r ha;have hll:l<s.length:=by rw[<- r.len];exact (_b.mp ha).1
 refine⟨⟨by simp[r.len],r.nd,λj ys h=>?_,λys h=>?_⟩,_bz _,λb u h hn=>?_,λa h1 h2=>absurd h1 h2,λb hb=>(r.mt b hb).imp (λh=>⟨h,k.l b h⟩) λh=>⟨h,k.c b h,λ_ _ e=>k.k b _ e (by intro _ z;cases z) (by intro _ z;cases z)⟩⟩
 ·by_cases hj:l=j
  ·subst hj;rw[_w hll]at h;cases h;exact⟨a,ha,hc⟩
  ·rw[_y hj]at h;obtain⟨b,h1,h2⟩:=r.cell j ys h;refine⟨b,h1,h2.gen k (λ_ _ q=>q) (zu ?_)⟩;rintro rfl;have il:l<Y.length:=(_b.mp ha).1;have ij:j<Y.length:=(_b.mp h1).1;exact hj ((_aX r.nd).mp (((_b.mp ha).2).trans ((_b.mp h1).2).symm))
 ·rcases List.mem_or_eq_of_mem_set h with h | h;·exact r.flat ys h
  ·rw[h];exact hf
 ·rw[zu (λz=>by subst z;exact hn hai)];exact h
theorem yQ.put{l:Nat}{a:Addr}{xs:List D}{vs:List V}(r:Rep mg H Y s)(ha:Y[l]? = some a)(ka:IsL H a)(hd:zv mg H Y xs vs)(hf:D.flat.flats xs=true):yQ mg H Y (upd H a (.lst vs)) Y (s.set l xs):= yQ.putC r ha (.putL ka) (.inl ⟨vs,ya,hd.gen (.putL ka) λ_ _ q=>q⟩) hf
def listOf(s:Sto):D->Option (List D)
 | .lst xs=>some xs | .loc l=>s[l]? | _=>none
def zU(s:Sto):D->Option (List D)
 | .tup xs=>some xs | .lst xs=>some xs | .scr xs=>some xs | .loc l=>s[l]? | _=>none
theorem zJ{d:D}{xs:List D}{v:V}(r:Rep mg H Y s)(h:listOf s d=some xs)(dn:Den mg H Y d v):∃a vs,v=.ref a/\Rd H a (.lst vs)/\zv mg H Y xs vs:=by cases d with
 | lst ys=>
  simp only[listOf,_I]at h;subst h;simp only[Den]at dn;obtain⟨a,o,vs,e,h1,h2⟩:=dn;exact⟨a,vs,e,.inr ⟨o,h1⟩,h2⟩ | loc l=>
  simp only[Den]at dn;obtain⟨a,e,h1,k⟩:=dn;obtain⟨vs,h3,h4⟩:=r.at_ h h1 k;exact⟨a,vs,e,.inl h3,h4⟩ | _=>simp[listOf]at h
theorem z79{xs:List D}{v:V}(dn:Den mg H Y (.scr xs) v):∃a vs,v=.ref a/\SqL mg.K H a vs/\zv mg H Y xs vs:=by
 simp only[Den]at dn;obtain⟨a,vs,e,h1,h2⟩:=dn;exact⟨a,vs,e,h1.elim (λ⟨o,h⟩=>.inl (.inr ⟨o,h⟩)) .inr,h2⟩
theorem vo{K:W.Frag}{d:D}{xs:List D}{v:V}(r:Rep mg H Y s)(h:zU s d=some xs)(dn:Den mg H Y d v)(hK:mg.K=K:=by rfl):∃a vs,v=.ref a/\(SqL K H a vs\/SqT K H a vs)/\zv mg H Y xs vs:=by cases d with
 | tup ys=>
  simp only[zU,_I]at h;subst h;simp only[Den]at dn;obtain⟨a,vs,e,h1,h2⟩:=dn;exact⟨a,vs,e,.inr (.inl (.inl h1)),h2⟩ | lst ys=>
  obtain⟨a,vs,e,h1,h2⟩:=zJ (d:=.lst ys) r h dn;exact⟨a,vs,e,.inl (.inl h1),h2⟩ | scr ys=>
  simp only[zU,_I]at h;subst h;subst hK;obtain⟨a,vs,e,h1,h2⟩:=z79 dn;exact⟨a,vs,e,.inl h1,h2⟩ | loc l=>
  obtain⟨a,vs,e,h1,h2⟩:=zJ (d:=.loc l) r h dn;exact⟨a,vs,e,.inl (.inl h1),h2⟩ | _=>simp[zU]at h
theorem uR{K:W.Frag}{xs:List D}{v:V}(dn:Den mg H Y (.tup xs) v):∃a vs,v=.ref a/\SqT K H a vs/\zv mg H Y xs vs:=by
 simp only[Den]at dn;obtain⟨a,vs,e,h1,h2⟩:=dn;exact⟨a,vs,e,.inl (.inl h1),h2⟩
end
def cap:Nat:=100000
theorem xO{n:Nat}(h:n<=cap):n<=sizeLine:=_v h (by decide)
theorem zaF{n:Nat}(h:n<cap):n<sizeLine:=_e h (by decide)
def BIG:Nat:=2 ^ 4096
def xy:D->D->Sto->R D
 | .int i,.int j,s=>.ok (.int (i+j)) s | .tup a,.tup b,s=>if a.length+b.length<=cap then .ok (.tup (a++b)) s else .no | x,y,s=>match listOf s x,listOf s y with
  | some a,some b=>if a.length+b.length<=cap then .ok (.lst (a++b)) s else .no | _,_=>.no
section
variable {X:Cx}{E:XK}
theorem yp{mg:Gm}{H:Hp}{Y:List Addr}{i:Int}{v:V}(h:Den mg H Y (.int i) v):v=.int i:=by simpa[Den] using h
theorem wI{mg:Gm}{H:Hp}{Y:List Addr}{i:Bool}{v:V}(h:Den mg H Y (.bl i) v):v=.bl i:=by simpa[Den] using h
theorem yb{mg:Gm}{H:Hp}{Y:List Addr}{i:Str}{v:V}(h:Den mg H Y (.str i) v):v=.str i:=by simpa[Den] using h
theorem yd{mg:Gm}{H:Hp}{Y:List Addr}{i:Int}:Den mg H Y (.int i) (.int i):=by simp[Den]
theorem ye{mg:Gm}{H:Hp}{Y:List Addr}{i:Bool}:Den mg H Y (.bl i) (.bl i):=by simp[Den]
theorem kE{mg:Gm}{H:Hp}{Y:List Addr}{s:Sto}{xs:List D}{vs:List V}{Q:VK}(r:Rep mg H Y s)(h:okR mg E H Y (Den mg) (.ok (.lst xs) s) Q)(hd:zv mg H Y xs vs):∀p,H p=none->z7L Q (.ref p) (upd H p (.lst vs)):=λp hp=>by
 refine⟨p,vs,rfl,ya,λo=>?_⟩;rw[z7x];have stp:=yQ.lay (o:=.frz o (.lst vs)) r hp (by intro _ z;cases z);refine h _ _ _ stp ?_;simp only[Den];exact⟨p,o,vs,rfl,ya,hd.mono stp⟩
theorem kJ{mg:Gm}{H:Hp}{Y:List Addr}{s:Sto}{xs:List D}{vs:List V}{Q:VK}(r:Rep mg H Y s)(h:okR mg E H Y (Den mg) (.ok (.tup xs) s) Q)(hd:zv mg H Y xs vs):∀p,H p=none->Q (.ref p) (upd H p (.tup vs)):=λp hp=>by
 have stp:=yQ.lay (o:=.tup vs) r hp (by intro _ z;cases z);refine h _ _ _ stp ?_;simp only[Den];exact⟨p,vs,rfl,ya,hd.mono stp⟩
theorem xj:∃r,OpR X (binaryOp .Add) r/\OpF X E r xy:=by
 refine⟨_,z9W.or ((z6e).or ((z7E).or (z7n.freeze))),?_⟩;intro H Y s d1 d2 v1 v2 Q r h1 h2 h;have lists:∀a b,listOf s d1=some a->listOf s d2=some b->okR (gm X) E H Y (Den (gm X)) (if a.length+b.length<=cap then R.ok (D.lst (a++b)) s else .no) Q-> ∃l b xs zs,v1=.ref l/\v2=.ref b/\Rd H l (.lst xs)/\Rd H b (.lst zs)/\xs.length+zs.length<=sizeLine/\∀p,H p=none->z7L Q (.ref p) (upd H p (.lst (xs++zs))):=λa b ha hb hq=>by
  obtain⟨l,vs,e,q1,q2⟩:=zJ r ha h1;obtain⟨l',vs',e',q1',q2'⟩:=zJ r hb h2;split at hq
  ·rename_i hl;exact⟨l,l',vs,vs',e,e',q1,q1',by rw[q2.length,q2'.length];exact xO hl,kE r hq (q2.append q2')⟩
  ·exact hq.elim
 unfold xy at h;split at h
 ·rename_i i j;cases yp h1;cases yp h2;exact .inl ⟨i,j,rfl,rfl,h.here r yd⟩
 ·rename_i a b;obtain⟨l,vs,rfl,q1,q2⟩:=uR (K:=X.K) h1;obtain⟨l',vs',rfl,q1',q2'⟩:=uR (K:=X.K) h2;split at h
  ·rename_i hl;cases a with
   | nil=>
    simp only[zv]at q2;subst q2;exact .inr (.inl ⟨l,l',vs',rfl,rfl,q1,q1',h.here r h2⟩) | cons x a=>
    have ne:vs≠[]:=λz=>by have:=q2.length;rw[z]at this;simp at this
    refine .inr (.inr (.inl ⟨l,l',vs,vs',rfl,rfl,q1,q1',ne,by rw[q2.length,q2'.length];exact xO hl,λz=>?_,λz=>kJ r h (q2.append q2')⟩));have eb:b=[]:=by
     have:=q2'.length;rw[z]at this;exact List.length_eq_zero_iff.mp this.symm
    subst eb;rw[_aI]at h;exact h.here r h1
  ·exact h.elim
 ·split at h
  ·rename_i a b ha hb;exact .inr (.inr (.inr (lists a b ha hb h)))
  ·exact h.elim
end
def dII(g:Int->Int->R D):D->D->Sto->R D
 | .int i,.int j,s=>match g i j with | .ok d _=>.ok d s | _=>.no
 | _,_,_=>.no
def iOk(d:D):R D:=.ok d []
def zbf:D->D->Sto->R D:=dII λi j=>iOk (.int (i-j))
def wx:D->D->Sto->R D:=dII λi j=>if i.natAbs<BIG/\j.natAbs<BIG then iOk (.int (i*j)) else .no
def z3F:D->D->Sto->R D:=dII λi j=>if 0<j/\j.natAbs<BIG then iOk (.int (i / j)) else .no
def z3c:D->D->Sto->R D:=dII λi j=>if 0<j then iOk (.int (i % j)) else .no
def z3M:D->D->Sto->R D:=dII λi j=>if 0<=j/\j<=1000/\i.natAbs<1000 then iOk (.int (i ^ j.toNat)) else .no
def dLt:D->D->Sto->R D:=dII λi j=>iOk (.bl (decide (i<j)))
def dLe:D->D->Sto->R D:=dII λi j=>iOk (.bl (decide (i<=j)))
def dGt:D->D->Sto->R D:=dII λi j=>iOk (.bl (decide (j<i)))
def dGe:D->D->Sto->R D:=dII λi j=>iOk (.bl (decide (j<=i)))
section
variable {X:Cx}{E:XK}
theorem uL{g:Int->Int->R D}{r:R2}(h:∀i j d t H Q,g i j=.ok d t->(∀v,(∀H Y,Den (gm X) H Y d v)->Q v H)->r (.int i) (.int j) H Q):OpF X E r (dII g):=by
 intro H Y s d1 d2 v1 v2 Q rp h1 h2 hq;unfold dII at hq;split at hq
 ·rename_i i j;cases yp h1;cases yp h2;split at hq
  ·rename_i d t e;exact h i j d t H Q e λv hv=>hq.here rp (hv H Y)
  ·exact hq.elim
 ·exact hq.elim
theorem zbL:∃r,OpR X (binaryOp .Sub) r/\OpF X E r zbf:=⟨_,z96,uL λi j d t H Q e q=>by
 simp only[iOk,R.ok.injEq]at e;exact⟨i,j,rfl,rfl,q _ (by intro H Y;rw[<- e.1];exact yd)⟩⟩
theorem z3h{i:Int}(h:i.natAbs<BIG):Builtin.Int.intBits i<=2 ^ 20:=by
 have q:Builtin.Int.intBits i<=4096:=(PySem.intBits_le_iff (m:=4096)).mpr h;omega
theorem z8u:OpR X (binaryOp .Mult) (rI (λi j=>i.natAbs<BIG/\j.natAbs<BIG) λi j=>.int (i*j)):=opI λ_ _ _ _ _ _ _ hc q=>mul_int q (IntMulOk.of_bits (z3h hc.1) (z3h hc.2))
theorem qs:∃r,OpR X (binaryOp .Mult) r/\OpF X E r wx:=⟨_,z8u,uL λi j d t H Q e q=>by
 split at e
 ·rename_i hc;simp only[iOk,R.ok.injEq]at e;exact⟨i,j,rfl,rfl,hc,q _ (by intro H Y;rw[<- e.1];exact yd)⟩
 ·cases e⟩
theorem z7A{j:Int}(h:j.natAbs<BIG):j.natAbs.log2<9000:=by
 by_cases h0:j.natAbs=0;·rw[h0];decide +kernel
 ·have:j.natAbs.log2<4096:=(Nat.log2_lt h0).mpr h;omega
theorem z6p:OpR X (binaryOp .FloorDiv) (rI (λ_ j=>0<j/\j.natAbs<BIG) λi j=>.int (i / j)):=opI λi j _ _ _ _ _ hc q=>by
 refine floordiv_int (by omega) ?_ (.inl (PyProof.noPylong_of_log2 (z7A hc.2)));rw[Int.fdiv_eq_ediv_of_nonneg _ (by omega)];exact q
theorem z7c:∃r,OpR X (binaryOp .FloorDiv) r/\OpF X E r z3F:=⟨_,z6p,uL λi j d t H Q e q=>by
 split at e
 ·rename_i hc;simp only[iOk,R.ok.injEq]at e;exact⟨i,j,rfl,rfl,hc,q _ (by intro H Y;rw[<- e.1];exact yd)⟩
 ·cases e⟩
theorem z3J:∃r,OpR X (binaryOp .Mod) r/\OpF X E r z3c:=⟨_,z9f,uL λi j d t H Q e q=>by
 split at e
 ·rename_i hc;simp only[iOk,R.ok.injEq]at e;exact⟨i,j,rfl,rfl,hc,q _ (by intro H Y;rw[<- e.1];exact yd)⟩
 ·cases e⟩
theorem z4S:∃r,OpR X (binaryOp .Pow) r/\OpF X E r z3M:=⟨_,zan,uL λi j d t H Q e q=>by
 split at e
 ·rename_i hc;simp only[iOk,R.ok.injEq]at e;exact⟨i,j,rfl,rfl,⟨hc.1,by omega,by omega⟩,q _ (by intro H Y;rw[<- e.1];exact yd)⟩
 ·cases e⟩
theorem zcz:∃r,OpR X (compareOp .Lt) r/\OpF X E r dLt:=⟨_,zbZ,uL λi j d t H Q e q=>by
 simp only[iOk,R.ok.injEq]at e;exact⟨i,j,rfl,rfl,q _ (by intro H Y;rw[<- e.1];exact ye)⟩⟩
theorem zcc:∃r,OpR X (compareOp .LtE) r/\OpF X E r dLe:=⟨_,zb7,uL λi j d t H Q e q=>by
 simp only[iOk,R.ok.injEq]at e;exact⟨i,j,rfl,rfl,q _ (by intro H Y;rw[<- e.1];exact ye)⟩⟩
theorem zcA:∃r,OpR X (compareOp .Gt) r/\OpF X E r dGt:=⟨_,zbz,uL λi j d t H Q e q=>by
 simp only[iOk,R.ok.injEq]at e;exact⟨i,j,rfl,rfl,q _ (by intro H Y;rw[<- e.1];exact ye)⟩⟩
theorem zaZ:∃r,OpR X (compareOp .GtE) r/\OpF X E r dGe:=⟨_,zbF,uL λi j d t H Q e q=>by
 simp only[iOk,R.ok.injEq]at e;exact⟨i,j,rfl,rfl,q _ (by intro H Y;rw[<- e.1];exact ye)⟩⟩
end
mutual
def wc:D->PyData
 | .non=>.none | .bl b=>.bool b | .int i=>.int i | .str x=>.str x | .tup xs=>.tuple (toPys xs) | .lst xs=>.list (toPys xs) | _=>.dict []
def toPys:List D->List PyData
 | []=>[] | d::ds=>wc d::toPys ds
end
def eqD(a b:D):Bool:=PyData.eqv (wc a) (wc b)
def z51(d:D):Bool:=SeqAt.shaped (wc d)
def dEq(x y:D)(s:Sto):R D:=if z51 x=true/\z51 y=true then .ok (.bl (eqD x y)) s else .no
def dNe(x y:D)(s:Sto):R D:=if z51 x=true/\z51 y=true then .ok (.bl (!eqD x y)) s else .no
section
variable {P:Program}{w:World}{mg:Gm}{H:Hp}{Y:List Addr}{h:Heap}
mutual
theorem Den.reads(ok:HOk P w H h):∀{d:D}{v:V}{u:Value},PyData.canLay0 (wc d)=true->Den mg H Y d v->yP v u->∃as,Reads h u (wc d) as
 | .non,_,_,_,dn,r=>by simp only[Den]at dn;subst dn;cases r;exact⟨_,by simpa[wc] using Reads.none⟩ | .bl b,_,_,_,dn,r=>by simp only[Den]at dn;subst dn;cases r;exact⟨_,by simpa[wc] using Reads.bool b⟩ | .int i,_,_,_,dn,r=>by simp only[Den]at dn;subst dn;obtain⟨t,rfl⟩:=r;exact⟨_,by simpa[wc] using Reads.int i t⟩ | .str x,_,_,_,dn,r=>by simp only[Den]at dn;subst dn;obtain⟨t,rfl⟩:=r;exact⟨_,by simpa[wc] using Reads.str x t⟩ | .tup ds,_,_,c,dn,r=>by
  simp only[Den]at dn;obtain⟨a,vs,rfl,h1,h2⟩:=dn;cases r;obtain⟨_,its,rv,o,e,hc,_,n,hd⟩:=ok a _ h1;obtain⟨as,q⟩:=zv.reads ok (by simpa[wc,PyData.canLay0] using c) h2 rv;rw[wc];exact⟨as,Reads.tuple e hc hd (by simpa using q)⟩ | .lst ds,_,_,c,dn,r=>by
  simp only[Den]at dn;obtain⟨a,o,vs,rfl,h1,h2⟩:=dn;cases r;obtain⟨_,_,its,n,rv,e⟩:=ok a _ h1;obtain⟨as,q⟩:=zv.reads ok (by simpa[wc,PyData.canLay0] using c) h2 rv;rw[wc];exact⟨_,Reads.list e rfl rfl (by simpa using q)⟩ | .dct,_,_,c,_,_=>by simp[wc,PyData.canLay0]at c | .loc _,_,_,c,_,_=>by simp[wc,PyData.canLay0]at c | .fn _,_,_,c,_,_=>by simp[wc,PyData.canLay0]at c | .exc _,_,_,c,_,_=>by simp[wc,PyData.canLay0]at c
theorem zv.reads(ok:HOk P w H h):∀{ds:List D}{vs:List V}{us:List Value},PyData.canLayAll0 (toPys ds)=true->zv mg H Y ds vs->yt vs us->∃as,ReadsAll h us (toPys ds) as
 | [],_,_,_,dn,r=>by simp only[zv]at dn;subst dn;cases r;exact⟨_,by simpa[toPys] using ReadsAll.nil⟩ | d::ds,_,_,c,dn,r=>by
  simp only[zv]at dn;obtain⟨v,vs,rfl,h1,h2⟩:=dn;simp only[toPys,PyData.canLayAll0,_q]at c;cases r with | cons r1 r2=>
   obtain⟨as,q⟩:=Den.reads ok c.1 h1 r1;obtain⟨bs,q'⟩:=zv.reads ok c.2 h2 r2;rw[toPys];exact⟨_,ReadsAll.cons q q'⟩
end
end
section
variable {X:Cx}{E:XK}
def zcu(mg:Gm)(neg:Bool):R2:=λx y H Q=>∃Y d1 d2,Den mg H Y d1 x/\Den mg H Y d2 y/\z51 d1=true/\z51 d2=true/\Q (.bl (if neg then !eqD d1 d2 else eqD d1 d2)) H
theorem zae(hu:X.A.units+64<cLine):OpR X (compareOp .Eq) (zcu (gm X) false):=by
 intro pins s O H x y v u Q I rx ry ⟨Y,d1,d2,h1,h2,p1,p2,q⟩;obtain⟨as,ra⟩:=Den.reads I.hok (_ax p1) h1 rx;obtain⟨bs,rb⟩:=Den.reads I.hok (_ax p2) h2 ry;exact SeqAt.compareEq_shaped ra rb p1 p2 hu ⟨.bl (eqD d1 d2),H,I,rfl,q⟩
theorem zaO(hu:X.A.units+64<cLine):OpR X (compareOp .NotEq) (zcu (gm X) true):=by
 intro pins s O H x y v u Q I rx ry ⟨Y,d1,d2,h1,h2,p1,p2,q⟩;obtain⟨as,ra⟩:=Den.reads I.hok (_ax p1) h1 rx;obtain⟨bs,rb⟩:=Den.reads I.hok (_ax p2) h2 ry;exact SeqAt.compareNe_shaped ra rb p1 p2 hu ⟨.bl (!eqD d1 d2),H,I,rfl,q⟩
theorem z7y(hu:X.A.units+64<cLine):∃r,OpR X (compareOp .Eq) r/\OpF X E r dEq:=⟨_,zae hu,λH Y s d1 d2 v1 v2 Q r h1 h2 h=>by
 unfold dEq at h;split at h
 ·rename_i hc;exact⟨Y,d1,d2,h1,h2,hc.1,hc.2,h.here r ye⟩
 ·exact h.elim⟩
theorem z8O(hu:X.A.units+64<cLine):∃r,OpR X (compareOp .NotEq) r/\OpF X E r dNe:=⟨_,zaO hu,λH Y s d1 d2 v1 v2 Q r h1 h2 h=>by
 unfold dNe at h;split at h
 ·rename_i hc;exact⟨Y,d1,d2,h1,h2,hc.1,hc.2,h.here r ye⟩
 ·exact h.elim⟩
def z1g:D->Option V
 | .non=>some .non | .bl b=>some (.bl b) | .int i=>some (.int i) | .str x=>some (.str x) | _=>none
theorem z1y{mg:Gm}{H:Hp}{Y:List Addr}{d:D}{v w:V}(h:z1g d=some w)(dn:Den mg H Y d v):v=w/\kz v=true:=by cases d<;>simp only[z1g,_I,reduceCtorEq]at h<;>(simp only[Den]at dn;subst dn;subst h;exact⟨rfl,rfl⟩)
def uY:List D->Option (List V)
 | []=>some [] | d::ds=>match z1g d,uY ds with | some v,some vs=>some (v::vs) | _,_=>none
theorem kM{mg:Gm}{H:Hp}{Y:List Addr}:∀{ds:List D}{vs ws:List V},uY ds=some ws->zv mg H Y ds vs->vs=ws/\vs.all kz=true
 | [],_,_,h,dn=>by simp only[uY,_I]at h;simp only[zv]at dn;subst dn;subst h;exact⟨rfl,rfl⟩ | d::ds,_,_,h,dn=>by
  simp only[zv]at dn;obtain⟨v,vs,rfl,h1,h2⟩:=dn;simp only[uY]at h;split at h
  ·rename_i w ws e1 e2;cases h;obtain⟨a1,a2⟩:=z1y e1 h1;obtain⟨b1,b2⟩:=kM e2 h2;exact⟨by rw[a1,b1],by rw[_a1,a2,b2];rfl⟩
  ·cases h
def z7o(neg:Bool)(x y:D)(s:Sto):R D:=match z1g x,(zU s y).bind uY with
 | some v,some vs=>.ok (.bl (if neg then !inV v vs else inV v vs)) s | _,_=>.no
theorem zaB{neg:Bool}:OpF X E (rIn X.K neg) (z7o neg):=λH Y s d1 d2 v1 v2 Q r h1 h2 h=>by
 unfold z7o at h;split at h
 ·rename_i v vs e1 e2;cases e3:zU s d2 with
  | none=>rw[e3]at e2;cases e2 | some xs=>
   rw[e3]at e2;obtain⟨a,ws,rfl,q1,q2⟩:=vo (K:=X.K) r e3 h2;obtain⟨b1,b2⟩:=kM e2 q2;obtain⟨a1,a2⟩:=z1y e1 h1;subst a1 b1;exact⟨a,ws,rfl,q1,a2,b2,h.here r ye⟩
 ·exact h.elim
theorem z7Q:∃r,OpR X (compareOp .NotIn) r/\OpF X E r (z7o true):=⟨_,z0V,zaB⟩
def dIs:D->D->Sto->R D
 | .bl a,.bl b,s=>.ok (.bl (a==b)) s | .non,.non,s=>.ok (.bl true) s | .bl _,.non,s=>.ok (.bl false) s | .int _,.non,s=>.ok (.bl false) s | .str _,.non,s=>.ok (.bl false) s | .tup _,.non,s=>.ok (.bl false) s | .lst _,.non,s=>.ok (.bl false) s | _,_,_=>.no
theorem zau:OpR X (compareOp .Is) (λx y H Q=>∃a b,x=.bl a/\y=.bl b/\Q (.bl (a==b)) H):=by
 intro pins s O H x y v u Q I rx ry ⟨a,b,e1,e2,q⟩;subst e1 e2;cases rx;cases ry;exact is_bool ⟨.bl (a==b),H,I,rfl,q⟩
theorem zcK:∃r,OpR X (compareOp .Is) r/\OpF X E r dIs:=⟨_,zau.or z8Z,λH Y s d1 d2 v1 v2 Q r h1 h2 h=>by
 unfold dIs at h;split at h
 ·cases wI h1;cases wI h2;exact .inl ⟨_,_,rfl,rfl,h.here r ye⟩
 ·simp only[Den]at h1 h2;subst h1 h2;exact .inr ⟨rfl,by have:=h.here r ye;simpa using this⟩
 ·simp only[Den]at h1 h2;subst h1 h2;exact .inr ⟨rfl,by have:=h.here r ye;simpa using this⟩
 ·simp only[Den]at h1 h2;subst h1 h2;exact .inr ⟨rfl,by have:=h.here r ye;simpa using this⟩
 ·simp only[Den]at h1 h2;subst h1 h2;exact .inr ⟨rfl,by have:=h.here r ye;simpa using this⟩
 ·simp only[Den]at h1 h2;obtain⟨a,vs,rfl,_⟩:=h1;subst h2;exact .inr ⟨rfl,by have:=h.here r ye;simpa using this⟩
 ·simp only[Den]at h1 h2;obtain⟨a,o,vs,rfl,_⟩:=h1;subst h2;exact .inr ⟨rfl,by have:=h.here r ye;simpa using this⟩
 ·exact h.elim⟩
def dIx(x y:D)(s:Sto):R D:=match y,zU s x with
 | .int i,some xs=>match atI xs i with | some d=>.ok d s | none=>.no
 | _,_=>.no
theorem z5L{mg:Gm}{H:Hp}{Y:List Addr}{xs:List D}{vs:List V}{i:Int}{d:D}(h:zv mg H Y xs vs)(e:atI xs i=some d):∃v,atI vs i=some v/\Den mg H Y d v:=by
 unfold atI at e ⊢;rw[h.length];cases q:ixN xs.length i with
 | none=>rw[q]at e;cases e | some j=>
  rw[q]at e;exact h.get e
theorem zdp:∃r,IxR X r/\OpF X E r dIx:=⟨_,z7M.or za5,λH Y s d1 d2 v1 v2 Q r h1 h2 h=>by
 unfold dIx at h;split at h
 ·rename_i i xs e;split at h
  ·rename_i d e2;cases yp h2;obtain⟨a,vs,rfl,q1,q2⟩:=vo (K:=X.K) r e h1;obtain⟨v,e3,e4⟩:=z5L q2 e2;rcases q1 with q1 | q1;·exact .inl ⟨a,vs,i,v,rfl,rfl,q1,e3,h.here r e4⟩
   ·exact .inr ⟨a,vs,i,v,rfl,rfl,q1,e3,h.here r e4⟩
  ·exact h.elim
 ·exact h.elim⟩
end
section
variable {X:Cx}{E:XK}{e a b c:Expr}{es:List Expr}{pos:Pos}
theorem zD{op:Operator}{fo:D->D->Sto->R D}{fa fb:FE}(ho:∃r,OpR X (binaryOp op) r/\OpF X E r fo)(ha:RE X E a fa)(hb:RE X E b fb):RE X E (.BinOp a op b pos) (eOp fo fa fb):=let ⟨_,h⟩:=ho;zcW h ha hb
theorem vA{op:CmpOp}{fo:D->D->Sto->R D}{fa fb:FE}(ho:∃r,OpR X (compareOp op) r/\OpF X E r fo)(ha:RE X E a fa)(hb:RE X E b fb)(hm:behindInMarks op b=false:=by first | exact z7h _ | rfl):RE X E (.Compare a [op] [b] pos) (eOp fo fa fb):=let ⟨_,h⟩:=ho;zb6 h ha hb hm
def tOf(f:FE):FT:=λZ s=>(f Z s).bind λd s1=>match d with | .bl k=>.ok k s1 | _=>.no
theorem z2M{f:FE}{O:L2.St}{H:Hp}{Q:Bool->Hp->Prop}(h:tT (gm X) E (tOf f) O H Q):z9S (tE (gm X) E f) O H Q:=by
 obtain⟨Y,Z,s,r,en,h⟩:=h;refine zX (k:=λZ d s1=>match d with | .bl k=>.ok k s1 | _=>.no) r en h _ λv H1 Y1 s1 d r1 en1 dn stp h1=>?_;cases d with
 | bl k=>
  cases wI dn;exact⟨k,rfl,h1.here (b:=k) r1 rfl⟩ | _=>exact h1.elim
theorem yD{op:CmpOp}{fo:D->D->Sto->R D}{fa fb:FE}(ho:∃r,OpR X (compareOp op) r/\OpF X E r fo)(ha:RE X E a fa)(hb:RE X E b fb)(hm:behindInMarks op b=false:=by first | exact z7h _ | rfl):RT X E (.Compare a [op] [b] pos) (tOf (eOp fo fa fb)):=by
 obtain⟨r,h1,h2⟩:=ho;exact z58 (z7F h1 ha hb hm) λO H Q h=>by
  have q:=z2M h;exact z1R h2 q
def z3t(fo fo':D->D->Sto->R D)(fa fb fc:FE):FE:=λZ s=>(fa Z s).bind λx s1=>(fb Z s1).bind λy s2=>(fo x y s2).bind λz s3=>match z with
 | .bl true=>(fc Z s3).bind λw s4=>fo' y w s4 | .bl false=>.ok (.bl false) s3 | _=>.no
theorem z4O{r r':R2}{fo fo':D->D->Sto->R D}{fa fb fc:FE}(ho:OpF X E r fo)(ho':OpF X E r' fo'){O:L2.St}{H:Hp}{Q:VK}(h:tE (gm X) E (z3t fo fo' fa fb fc) O H Q):z6U r r' (tE (gm X) E fa) (tE (gm X) E fb) (tE (gm X) E fc) O H Q:=by
 obtain⟨Y,Z,s,rp,en,h⟩:=h;refine zX (k:=λZ x s1=>(fb Z s1).bind λy s2=>(fo x y s2).bind λz s3=>match z with
  | .bl true=>(fc Z s3).bind λw s4=>fo' y w s4 | .bl false=>.ok (.bl false) s3 | _=>.no) rp en h _ λv H1 Y1 s1 d r1 en1 dn stp h1=>?_;refine zX (k:=λZ y s2=>(fo d y s2).bind λz s3=>match z with
  | .bl true=>(fc Z s3).bind λw s4=>fo' y w s4 | .bl false=>.ok (.bl false) s3 | _=>.no) r1 en1 h1 _ λv2 H2 Y2 s2 d2 r2 en2 dn2 stp2 h2=>?_;refine ho H2 Y2 s2 d d2 v v2 _ r2 (dn.mono stp2) dn2 ((okR.bind (Dn:=Den (gm X)) h2).imp λv3 H3 ⟨Y3,s3,d3,stp3,dn3,h3⟩=>?_);cases d3 with
 | bl k=>
  cases wI dn3;refine⟨k,rfl,?_⟩;cases k with
  | true=>
   rw[_f rfl];refine zX (k:=λZ w s4=>fo' d2 w s4) stp3.rep (en2.mono stp3) h3 _ λv4 H4 Y4 s4 d4 r4 en4 dn4 stp4 h4=>?_;exact ho' H4 Y4 s4 d2 d4 v2 v4 Q r4 ((dn2.mono stp3).mono stp4) dn4 h4 | false=>
   rw[_o (by decide)];exact okR.here (b:=V.bl false) h3 stp3.rep ye
 | _=>exact h3.elim
theorem z83{op op':CmpOp}{fo fo':D->D->Sto->R D}{fa fb fc:FE}(ho:∃r,OpR X (compareOp op) r/\OpF X E r fo)(ho':∃r,OpR X (compareOp op') r/\OpF X E r fo')(ha:RE X E a fa)(hb:RE X E b fb)(hc:RE X E c fc) (hm:lastMarks [op,op'] [b,c]=false:=by with_unfolding_all rfl):RE X E (.Compare a [op,op'] [b,c] pos) (z3t fo fo' fa fb fc):=by
 obtain⟨r,h1,h2⟩:=ho;obtain⟨r',h1',h2'⟩:=ho';exact zF (z6c h1 h1' ha hb hc hm) λO H Q h=>z4O h2 h2' h
def z43(fa fb:FE):FE:=λZ s=>(fa Z s).bind λx s1=>match x with | .bl true=>fb Z s1 | .bl false=>.ok (.bl false) s1 | _=>.no
def eOr(fa fb:FE):FE:=λZ s=>(fa Z s).bind λx s1=>match x with | .bl false=>fb Z s1 | .bl true=>.ok (.bl true) s1 | _=>.no
def zb2(fa:FE):FE:=λZ s=>(fa Z s).bind λx s1=>match x with | .bl k=>.ok (.bl (!k)) s1 | _=>.no
variable {jr:List Expr}
theorem z1o{op:BoolOp}{f:FE}(h:RE X E a f):RE X E (.BoolOp op [a] pos) f:=z9A h
theorem z2u{fa fb:FE}(ha:RE X E a fa)(hb:RE X E (.BoolOp .And (b::jr) pos) fb):RE X E (.BoolOp .And (a::b::jr) pos) (z43 fa fb):= zF (z92 ha hb) λO H Q ⟨Y,Z,s,r,en,h⟩=>by
  refine zX (k:=λZ x s1=>match x with | .bl true=>fb Z s1 | .bl false=>.ok (.bl false) s1 | _=>.no) r en h _ λv H1 Y1 s1 d r1 en1 dn stp h1=>?_;cases d with
  | bl k=>
   cases wI dn;refine⟨k,rfl,?_⟩;cases k with
   | true=>rw[_f rfl];exact⟨Y1,Z,s1,r1,en1,h1⟩ | false=>rw[_o (by decide)];exact okR.here (b:=V.bl false) h1 r1 ye
  | _=>exact h1.elim
theorem zd9{fa fb:FE}(ha:RE X E a fa)(hb:RE X E (.BoolOp .Or (b::jr) pos) fb):RE X E (.BoolOp .Or (a::b::jr) pos) (eOr fa fb):= zF (zbQ ha hb) λO H Q ⟨Y,Z,s,r,en,h⟩=>by
  refine zX (k:=λZ x s1=>match x with | .bl false=>fb Z s1 | .bl true=>.ok (.bl true) s1 | _=>.no) r en h _ λv H1 Y1 s1 d r1 en1 dn stp h1=>?_;cases d with
  | bl k=>
   cases wI dn;refine⟨k,rfl,?_⟩;cases k with
   | false=>rw[_o (by decide)];exact⟨Y1,Z,s1,r1,en1,h1⟩ | true=>rw[_f rfl];exact okR.here (b:=V.bl true) h1 r1 ye
  | _=>exact h1.elim
theorem z9y{fa:FE}(ha:RE X E a fa):RE X E (.UnaryOp .Not a pos) (zb2 fa):= zF (zaq ha) λO H Q ⟨Y,Z,s,r,en,h⟩=>by
  refine zX (k:=λZ x s1=>match x with | .bl k=>R.ok (D.bl (!k)) s1 | _=>.no) r en h _ λv H1 Y1 s1 d r1 en1 dn stp h1=>?_;cases d with
  | bl k=>
   cases wI dn;exact⟨k,rfl,okR.here (b:=V.bl (!k)) h1 r1 ye⟩ | _=>exact h1.elim
def zbl(fa fb:FT):FT:=λZ s=>(fa Z s).bind λx s1=>if x=true then fb Z s1 else .ok false s1
def fOr(fa fb:FT):FT:=λZ s=>(fa Z s).bind λx s1=>if x=true then .ok true s1 else fb Z s1
def kg(fa:FT):FT:=λZ s=>(fa Z s).bind λx s1=>.ok (!x) s1
def RW(X:Cx)(E:XK)(e:Expr)(f:FT):Prop:=PW X e (tT (gm X) E f)
theorem RW.rt{f:FT}(h:RW X E e f):RT X E e f:=PW.pt h
theorem z73{t t':TT}(h:PW X e t)(i:∀O H Q,t' O H Q->t O H Q):PW X e t':=λwh pins s O H Q I q=>h wh pins s O H Q I (i O H Q q)
theorem z9O{f:FT}(h:RT X E a f):RW X E (.BoolOp .And [a] pos) f:=z8d h
theorem jG{f:FT}(h:RT X E a f):RW X E (.BoolOp .Or [a] pos) f:=z9T h
theorem w_and{fa fb:FT}(ha:RT X E a fa)(hb:RW X E (.BoolOp .And (b::jr) pos) fb):RW X E (.BoolOp .And (a::b::jr) pos) (zbl fa fb):= z73 (z9Q ha hb) λO H Q ⟨Y,Z,s,r,en,h⟩=>by
  refine jI (k:=λZ x s1=>if x=true then fb Z s1 else .ok false s1) r en h _ λv H1 Y1 s1 r1 en1 stp h1=>?_;cases v with
  | true=>rw[_f rfl]at h1 ⊢;exact⟨Y1,Z,s1,r1,en1,h1⟩ | false=>rw[_o (by decide)]at h1 ⊢;exact h1.here r1 rfl
theorem z45{fa fb:FT}(ha:RT X E a fa)(hb:RW X E (.BoolOp .Or (b::jr) pos) fb):RW X E (.BoolOp .Or (a::b::jr) pos) (fOr fa fb):= z73 (zbP ha hb) λO H Q ⟨Y,Z,s,r,en,h⟩=>by
  refine jI (k:=λZ x s1=>if x=true then .ok true s1 else fb Z s1) r en h _ λv H1 Y1 s1 r1 en1 stp h1=>?_;cases v with
  | false=>rw[_o (by decide)]at h1 ⊢;exact⟨Y1,Z,s1,r1,en1,h1⟩ | true=>rw[_f rfl]at h1 ⊢;exact h1.here r1 rfl
theorem uH{fa:FT}(ha:RT X E a fa):RT X E (.UnaryOp .Not a pos) (kg fa):= z58 (z9j ha) λO H Q ⟨Y,Z,s,r,en,h⟩=>jI (k:=λZ x s1=>.ok (!x) s1) r en h _ λv H1 Y1 s1 r1 en1 stp h1=>h1.here r1 rfl
theorem wH{f:FE}(h:RE X E a f)(he:∀whole,isTrue a X.env whole=(do let v <- whole;standAt a.pos;holding [v] (truthy v)):=by intro _;rfl):RT X E a (tOf f):= z58 (zaj h he) λO H Q h=>z2M h
def eIf(ft:FT)(fa fb:FE):FE:=λZ s=>(ft Z s).bind λx s1=>if x=true then fa Z s1 else fb Z s1
theorem zcj{ft:FT}{fa fb:FE}(hc:RT X E c ft)(ha:RE X E a fa)(hb:RE X E b fb):RE X E (.IfExp c a b pos) (eIf ft fa fb):= zF (z5X hc ha hb) λO H Q ⟨Y,Z,s,r,en,h⟩=>jI (k:=λZ x s1=>if x=true then fa Z s1 else fb Z s1) r en h _ λv H1 Y1 s1 r1 en1 stp h1=>by cases v with
  | true=>rw[_f rfl]at h1 ⊢;exact⟨Y1,Z,s1,r1,en1,h1⟩ | false=>rw[_o (by decide)]at h1 ⊢;exact⟨Y1,Z,s1,r1,en1,h1⟩
theorem z46 {fa fb:FE} (ha:RE X E a fa) (hb:RE X E b fb) (hs:z2n b:=by intro _ _;rfl):RE X E (.Subscript a b pos) (eOp dIx fa fb):=by
 obtain⟨r,h1,h2⟩:=zdp (X:=X) (E:=E);exact zF (z9M h1 ha hb hs) λO H Q h=>z1R h2 h
def zj:FA:=λ_ s=>.ok [] s
def za(fa:FE)(fr:FA):FA:=λZ s=>(fa Z s).bind λx s1=>(fr Z s1).bind λxs s2=>.ok (x::xs) s2
theorem zi:RA X E [] zj:=z6Y vH λO H Q ⟨Y,Z,s,r,en,h⟩=>h.here r zv.nil
theorem wG{fa:FE}{fr:FA}(ha:RE X E e fa)(hr:RA X E es fr)(hs:starEach (e::es) X.env=(false,eval e X.env)::starEach es X.env:=by rfl):RA X E (e::es) (za fa fr):= z6Y (yC ha hr hs) λO H Q ⟨Y,Z,s,r,en,h⟩=>by
  refine zX (k:=λZ x s1=>(fr Z s1).bind λxs s2=>.ok (x::xs) s2) r en h _ λv H1 Y1 s1 d r1 en1 dn stp h1=>?_;refine wX (k:=λZ xs s2=>.ok (d::xs) s2) r1 en1 h1 _ λvs H2 Y2 s2 ds r2 en2 dn2 stp2 h2=>?_;exact h2.here r2 (zv.cons (dn.mono stp2) dn2)
def jM(f:FA):FE:=λZ s=>(f Z s).bind λxs s1=>if xs.length<=cap then .ok (.tup xs) s1 else .no
theorem jv{f:FA}{x1:Nat}(h:RA X E es f):RE X E (.Tuple es x1 pos) (jM f):= zF (z6T h) λO H Q ⟨Y,Z,s,r,en,h⟩=>by
  refine wX (k:=λZ xs s1=>if xs.length<=cap then R.ok (D.tup xs) s1 else .no) r en h _ λvs H2 Y2 s2 ds r2 en2 dn2 stp2 h2=>?_;split at h2
  ·rename_i hl;exact⟨by rw[dn2.length];exact xO hl,kJ r2 h2 dn2⟩
  ·exact h2.elim
def vd(f:FA):FE:=λZ s=>(f Z s).bind λxs s1=>if xs.length<=cap then .ok (.lst xs) s1 else .no
theorem xR{f:FA}(h:RA X E es f):RE X E (.List es pos) (vd f):= zF (z7i h).freeze λO H Q ⟨Y,Z,s,r,en,h⟩=>by
  refine wX (k:=λZ xs s1=>if xs.length<=cap then R.ok (D.lst xs) s1 else .no) r en h _ λvs H2 Y2 s2 ds r2 en2 dn2 stp2 h2=>?_;split at h2
  ·rename_i hl;exact⟨by rw[dn2.length];exact xO hl,kE r2 h2 dn2⟩
  ·exact h2.elim
def z8R(f:FA):FE:=λZ s=>(f Z s).bind λxs s1=>if xs.length<=cap/\D.flat.flats xs=true then .ok (.loc s1.length) (s1++[xs]) else .no
theorem z6J{mg:Gm}{H:Hp}{Y:List Addr}{s:Sto}{xs:List D}{vs:List V}{Q:VK}(r:Rep mg H Y s)(h:okR mg E H Y (Den mg) (.ok (.loc s.length) (s++[xs])) Q)(hf:D.flat.flats xs=true)(hd:zv mg H Y xs vs):∀p,H p=none->Q (.ref p) (upd H p (.lst vs)):=λp hp=>by
 refine h _ _ _ (yQ.layL r hp hd hf) ?_;simp only[Den];exact⟨p,rfl,by rw[<- r.len];simp,vs,ya⟩
theorem z6q{f:FA}(h:RA X E es f):RE X E (.List es pos) (z8R f):= zF (z7i h) λO H Q ⟨Y,Z,s,r,en,h⟩=>by
  refine wX (k:=λZ xs s1=>if xs.length<=cap/\D.flat.flats xs=true then R.ok (D.loc s1.length) (s1++[xs]) else .no) r en h _ λvs H2 Y2 s2 ds r2 en2 dn2 stp2 h2=>?_;split at h2
  ·rename_i hl;exact⟨by rw[dn2.length];exact xO hl.1,z6J r2 h2 hl.2 dn2⟩
  ·exact h2.elim
def uN(X:Cx)(E:XK)(r:List V->Hp->VK->Prop)(g:List D->Sto->R D):Prop:= ∀H Y s ds vs (Q:VK),Rep (gm X) H Y s->zv (gm X) H Y ds vs->okR (gm X) E H Y (Den (gm X)) (g ds s) Q->r vs H Q
def zf(g:List D->Sto->R D)(f:FA):FE:=λZ s=>(f Z s).bind λxs s1=>g xs s1
theorem zS {x:Str} {p:Pos} {id:String} {g:List D->Sto->R D} {f:FA} (hc:∃r,yB X (.builtin id) r/\uN X E r g) (hg:Gl X x) (hm:X.mg x=none) (hv:bootBuiltins x=some (.builtin id)) (ha:RA X E (e::es) f) (hn:x≠"__name__":=by decide) (hdb:(x==("__debug__":Str))=false:=by decide) (he:starEach (e::es) X.env=(false,eval e X.env)::starEach es X.env:=by rfl) (hpl:(backTo pos (starEach es X.env)).any (·.1)=false:=by rfl):RE X E (.Call (.Name x p) (e::es) [] pos) (zf g f):=by
 obtain⟨r,h1,h2⟩:=hc;exact zF (uP h1 hg hm hv ha hn hdb he hpl) λO H Q ⟨Y,Z,s,r,en,h⟩=> wX (k:=λZ xs s1=>g xs s1) r en h _ λvs H2 Y2 s2 ds r2 en2 dn2 stp2 h3=>h2 H2 Y2 s2 ds vs Q r2 dn2 h3
theorem vB {x:Str} {p:Pos} {T:String} {g:List D->Sto->R D} {f:FA} (hc:∃r,yB X (.type T) r/\uN X E r g) (hg:Gl X x) (hm:X.mg x=none) (hv:bootBuiltins x=some (.type T)) (ha:RA X E (e::es) f) (hn:x≠"__name__":=by decide) (hdb:(x==("__debug__":Str))=false:=by decide) (he:starEach (e::es) X.env=(false,eval e X.env)::starEach es X.env:=by rfl) (hpl:(backTo pos (starEach es X.env)).any (·.1)=false:=by rfl):RE X E (.Call (.Name x p) (e::es) [] pos) (zf g f):=by
 obtain⟨r,h1,h2⟩:=hc;exact zF (z56 h1 hg hm hv ha hn hdb he hpl) λO H Q ⟨Y,Z,s,r,en,h⟩=> wX (k:=λZ xs s1=>g xs s1) r en h _ λvs H2 Y2 s2 ds r2 en2 dn2 stp2 h3=>h2 H2 Y2 s2 ds vs Q r2 dn2 h3
theorem qJ{mg:Gm}{H:Hp}{Y:List Addr}{d:D}{vs:List V}(h:zv mg H Y [d] vs):∃v,vs=[v]/\Den mg H Y d v:=by
 simp only[zv]at h;obtain⟨v,r,rfl,h1,rfl⟩:=h;exact⟨v,rfl,h1⟩
theorem z5u{mg:Gm}{H:Hp}{Y:List Addr}{d d':D}{vs:List V}(h:zv mg H Y [d,d'] vs):∃v v',vs=[v,v']/\Den mg H Y d v/\Den mg H Y d' v':=by
 simp only[zv]at h;obtain⟨v,r,rfl,h1,v',r',rfl,h2,rfl⟩:=h;exact⟨v,v',rfl,h1,h2⟩
def wb:List D->Sto->R D
 | [d],s=>match zU s d with | some xs=>.ok (.int xs.length) s | none=>.no
 | _,_=>.no
theorem jx:∃r,yB X (.builtin "len") r/\uN X E r wb:=⟨_,z1f,λH Y s ds vs Q r hd h=>by
 unfold wb at h;split at h
 ·split at h
  ·rename_i d xs e;obtain⟨v,rfl,dn⟩:=qJ hd;obtain⟨a,ws,rfl,q1,q2⟩:=vo (K:=X.K) r e dn;exact⟨a,ws,rfl,q1,by rw[q2.length];exact h.here r yd⟩
  ·exact h.elim
 ·exact h.elim⟩
def uc:List D->Sto->R D
 | [d],s=>match zU s d with | some xs=>.ok (.tup xs) s | none=>.no
 | _,_=>.no
theorem z0N:∃r,yB X (.type "tuple") r/\uN X E r uc:=⟨_,z0D,λH Y s ds vs Q r hd h=>by match ds,hd,h with
 | [],_,h=>exact h.elim | _::_::_,_,h=>exact h.elim | [d],hd,h=>
  obtain⟨v,rfl,dn⟩:=qJ hd;simp only[uc]at h;cases e:zU s d with
  | none=>rw[e]at h;exact h.elim | some xs=>
   rw[e]at h;cases d with
   | tup ys=>
    simp only[zU,_I]at e;subst e;obtain⟨a,ws,rfl,q1,q2⟩:=uR (K:=X.K) dn;exact⟨a,ws,rfl,.inr ⟨q1,h.here r dn⟩⟩ | lst ys=>
    obtain⟨a,ws,rfl,q1,q2⟩:=zJ (d:=.lst ys) r e dn;exact⟨a,ws,rfl,.inl ⟨.inl q1,kJ r h q2⟩⟩ | loc l=>
    obtain⟨a,ws,rfl,q1,q2⟩:=zJ (d:=.loc l) r e dn;exact⟨a,ws,rfl,.inl ⟨.inl q1,kJ r h q2⟩⟩ | scr ys=>
    simp only[zU,_I]at e;subst e;obtain⟨a,ws,rfl,q1,q2⟩:=z79 dn;exact⟨a,ws,rfl,.inl ⟨q1,kJ r h q2⟩⟩ | _=>simp[zU]at e⟩
def z3X:List D->Sto->R D
 | [d],s=>match zU s d with | some xs=>.ok (.lst xs) s | none=>.no
 | _,_=>.no
theorem z9k:∃r,yB X (.type "list") r/\uN X E r z3X:=⟨_,z1Y.freeze,λH Y s ds vs Q r hd h=>by
 unfold z3X at h;split at h
 ·split at h
  ·rename_i d xs e;obtain⟨v,rfl,dn⟩:=qJ hd;obtain⟨a,ws,rfl,q1,q2⟩:=vo (K:=X.K) r e dn;exact⟨a,ws,rfl,q1,kE r h q2⟩
  ·exact h.elim
 ·exact h.elim⟩
def z8N:List D->Sto->R D
 | [.int i],s=>.ok (.int i) s | [.bl b],s=>.ok (.int (if b then 1 else 0)) s | _,_=>.no
theorem zbC:∃r,yB X (.type "int") r/\uN X E r z8N:=⟨_,z4W,λH Y s ds vs Q r hd h=>by
 unfold z8N at h;split at h
 ·rename_i i;obtain⟨v,rfl,dn⟩:=qJ hd;cases yp dn;exact .inl ⟨i,rfl,h.here r yd⟩
 ·rename_i b;obtain⟨v,rfl,dn⟩:=qJ hd;cases wI dn;exact .inr ⟨b,rfl,h.here r yd⟩
 ·exact h.elim⟩
def z6i:List D->Sto->R D
 | [.int i,.int j],s=>.ok (.int (if j > i then j else i)) s | _,_=>.no
def z6C:List D->Sto->R D
 | [.int i,.int j],s=>.ok (.int (if j<i then j else i)) s | _,_=>.no
theorem zaT(hc:X.calm=true):∃r,yB X (.builtin "max") r/\uN X E r z6i:=⟨_,z4R hc,λH Y s ds vs Q r hd h=>by
 unfold z6i at h;split at h
 ·rename_i i j;obtain⟨v,v',rfl,d1,d2⟩:=z5u hd;cases yp d1;cases yp d2;exact⟨i,j,rfl,h.here r yd⟩
 ·exact h.elim⟩
theorem za7(hc:X.calm=true):∃r,yB X (.builtin "min") r/\uN X E r z6C:=⟨_,z4g hc,λH Y s ds vs Q r hd h=>by
 unfold z6C at h;split at h
 ·rename_i i j;obtain⟨v,v',rfl,d1,d2⟩:=z5u hd;cases yp d1;cases yp d2;exact⟨i,j,rfl,h.here r yd⟩
 ·exact h.elim⟩
abbrev FO:=Ev->Sto->R (Option Int)
def oD(_:Hp)(_:List Addr)(a b:Option Int):Prop:=a=b
def tO(mg:Gm)(E:XK)(f:FO):TO:=λO H Q=>∃Y Z s,Rep mg H Y s/\wQ mg H Y Z O/\okR mg E H Y oD (f Z s) Q
def RO(X:Cx)(E:XK)(e:Option Expr)(f:FO):Prop:=PO X e (tO (gm X) E f)
theorem z6W{o:Option Expr}{t t':TO}(h:PO X o t)(i:∀O H Q,t' O H Q->t O H Q):PO X o t':=λpins s O H Q I q=>h pins s O H Q I (i O H Q q)
def zO:FO:=λ_ s=>.ok none s
def yh(f:FE):FO:=λZ s=>(f Z s).bind λd s1=>match d with | .int i=>.ok (some i) s1 | _=>.no
theorem kK:RO X E none zO:=z6W z2j λO H Q ⟨Y,Z,s,r,en,h⟩=>h.here (b:=none) r rfl
theorem vx{f:FE}(h:RE X E e f):RO X E (some e) (yh f):=z6W (z8b h) λO H Q ⟨Y,Z,s,r,en,h⟩=>by
 refine zX (k:=λZ d s1=>match d with | .int i=>.ok (some i) s1 | _=>.no) r en h _ λv H1 Y1 s1 d r1 en1 dn stp h1=>?_;cases d with
 | int i=>cases yp dn;exact⟨i,rfl,h1.here (b:=some i) r1 rfl⟩ | _=>exact h1.elim
def cutD(xs:List D)(lo hi:Option Int):List D:=(xs.drop (HT.sIx xs.length 0 lo)).take (HT.sIx xs.length xs.length hi-HT.sIx xs.length 0 lo)
theorem z06{mg:Gm}{H:Hp}{Y:List Addr}{xs:List D}{vs:List V}(h:zv mg H Y xs vs)(lo hi:Option Int):zv mg H Y (cutD xs lo hi) (z6S vs lo hi):=by
 unfold cutD z6S;rw[h.length];exact (h.drop _).take _
def dSl(x:D)(lo hi:Option Int)(s:Sto):R D:=match x with
 | .tup xs=>.ok (.tup (cutD xs lo hi)) s | x=>match listOf s x with | some xs=>.ok (.lst (cutD xs lo hi)) s | none=>.no
def eSl(fe:FE)(fl fh:FO):FE:=λZ s=>(fe Z s).bind λx s1=>(fl Z s1).bind λlo s2=>(fh Z s2).bind λhi s3=>dSl x lo hi s3
theorem z0x{α β:Type}{Dn:Hp->List Addr->α->β->Prop}{mg:Gm}{f:FO}{k:Ev->Option Int->Sto->R α}{O:L2.St}{H:Hp}{Q:β->Hp->Prop}{Y:List Addr}{Z:Ev}{s:Sto}(r:Rep mg H Y s)(en:wQ mg H Y Z O) (h:okR mg E H Y Dn ((f Z s).bind (k Z)) Q)(K:Option Int->Hp->Prop) (hK:∀v H1 Y1 s1,Rep mg H1 Y1 s1->wQ mg H1 Y1 Z O->yQ mg H Y H1 Y1 s1->okR mg E H1 Y1 Dn (k Z v s1) Q->K v H1):tO mg E f O H K:= ⟨Y,Z,s,r,en,(okR.bind (Dn:=oD) h).imp λv H1 ⟨Y1,s1,d,stp,dn,q⟩=>hK v H1 Y1 s1 stp.rep (en.mono stp) stp (by cases (show d=v from dn);exact q)⟩
theorem uW{lo hi:Option Expr}{p2:Pos}{fe:FE}{fl fh:FO}(he:RE X E e fe)(hl:RO X E lo fl)(hh:RO X E hi fh):RE X E (.Subscript e (.Slice lo hi none p2) pos) (eSl fe fl fh):= zF (z0m ((z9G.or z8B).or z7s.freeze) he hl hh) λO H Q ⟨Y,Z,s,r,en,h⟩=>by
  refine zX (k:=λZ x s1=>(fl Z s1).bind λlo s2=>(fh Z s2).bind λhi s3=>dSl x lo hi s3) r en h _ λv H1 Y1 s1 d r1 en1 dn stp h1=>?_;refine z0x (k:=λZ lo s2=>(fh Z s2).bind λhi s3=>dSl d lo hi s3) r1 en1 h1 _ λlo H2 Y2 s2 r2 en2 stp2 h2=>?_;refine z0x (k:=λZ hi s3=>dSl d lo hi s3) r2 en2 h2 _ λhi H3 Y3 s3 r3 en3 stp3 h3=>?_;have dn3:=(dn.mono stp2).mono stp3;cases d with
  | tup xs=>
   obtain⟨a,vs,rfl,q1,q2⟩:=uR (K:=X.K) dn3;have h3':okR (gm X) E H3 Y3 (Den (gm X)) (.ok (.tup (cutD xs lo hi)) s3) Q:=h3;by_cases hw:HT.sIx vs.length 0 lo=0/\HT.sIx vs.length vs.length hi=vs.length
   ·refine .inl (.inr ⟨a,vs,rfl,q1,hw,?_⟩);have e:cutD xs lo hi=xs:=by
     unfold cutD;rw[<- q2.length,hw.1,hw.2];simp[q2.length]
    rw[e]at h3';exact h3'.here r3 dn3
   ·exact .inl (.inl ⟨a,vs,rfl,q1,hw,kJ r3 h3' (z06 q2 lo hi)⟩) | lst xs=>
   obtain⟨a,vs,rfl,q1,q2⟩:=zJ (d:=.lst xs) r3 rfl dn3;exact .inr ⟨a,vs,rfl,.inl q1,kE r3 h3 (z06 q2 lo hi)⟩ | loc l=>
   simp only[dSl]at h3;split at h3
   ·rename_i xs e;obtain⟨a,vs,rfl,q1,q2⟩:=zJ (d:=.loc l) r3 e dn3;exact .inr ⟨a,vs,rfl,.inl q1,kE r3 h3 (z06 q2 lo hi)⟩
   ·exact h3.elim | _=>exact h3.elim
end
abbrev Mir:=List D->Sto->R D
def z6Q(mg:Gm)(M:Mir):Sp:=λvs H Q E=>∃Y s ds,Rep mg H Y s/\zv mg H Y ds vs/\okR mg E H Y (Den mg) (M ds s) Q
def Has(P:Program)(w:World)(K:W.Frag)(mg:Str->Option Value)(base:Heap)(CX:CXT)(x:Str)(n:Nat)(M:Mir):Prop:= ∃f fd ps,z0P P w K mg base CX n f fd ps (z6Q ⟨mg,K⟩ M)/\Binds K fd ps []/\W.keepIn K (.ref f)=true/\mg x=some (.ref f)
section
variable {X:Cx}{E:XK}{e a b c:Expr}{es:List Expr}{pos:Pos}{CX:CXT}
theorem z5f {x:Str} {p:Pos} {n:Nat} {M:Mir} {f:FA} (F:Has X.prog X.w X.K X.mg X.base CX x n M) (hr:qO n X.A) (hx:Passes CX X E) (hg:Gl X x) (ha:RA X E (e::es) f) (hdb:(x==("__debug__":Str))=false:=by decide) (he:starEach (e::es) X.env=(false,eval e X.env)::starEach es X.env:=by rfl) (hpl:(backTo pos (starEach es X.env)).any (·.1)=false:=by rfl):RE X E (.Call (.Name x p) (e::es) [] pos) (zf M f):=by
 obtain⟨fa,fd,ps,F,hb,hk,hm⟩:=F;refine zF (z7B F hr hg hm hk hb .nil hx ha hdb he hpl) λO H Q ⟨Y,Z,s,r,en,h⟩=>?_;refine wX (k:=λZ xs s1=>M xs s1) r en h _ λvs H2 Y2 s2 ds r2 en2 dn2 stp2 h3=>?_;rw[_aI];exact⟨Y2,s2,ds,r2,dn2,h3⟩
def zM(f g:FS):FS:=λZ s=>(f Z s).bind λfl s1=>match fl with | .nx Z'=>g Z' s1 | fl=>.ok fl s1
def yO:FS:=λZ s=>.ok (.nx Z) s
variable {st:Stmt}{rs:List Stmt}
theorem za4 {mg:Gm} {f g:FS} {D:z82} {O:L2.St} {H:Hp} (h:tS mg E (zM f g) D O H):zcm (tS mg E f) (tS mg E g) D O H:=by
 obtain⟨Y,Z,s,r,en,h⟩:=h;refine⟨Y,Z,s,r,en,(okR.bind (Dn:=FlD mg) h).imp λfv H1 ⟨Y1,s1,fl,stp,dn,q⟩=>?_⟩;cases fl with
 | nx Z'=> cases fv with
  | nx O'=>exact⟨Y1,Z',s1,stp.rep,dn,q⟩ | _=>exact (show False from dn).elim
 | rt d=> cases fv with
  | rt v=>exact okR.here (b:=FlV.rt v) (Q:=z0q D) (s:=s1) (a:=Fl.rt d) q stp.rep dn | _=>exact (show False from dn).elim
 | bk Z'=> cases fv with
  | bk v=>exact okR.here (b:=FlV.bk v) (Q:=z0q D) (s:=s1) (a:=Fl.bk Z') q stp.rep dn | _=>exact (show False from dn).elim
 | ct Z'=> cases fv with
  | ct v=>exact okR.here (b:=FlV.ct v) (Q:=z0q D) (s:=s1) (a:=Fl.ct Z') q stp.rep dn | _=>exact (show False from dn).elim
theorem yx:RSs X E [] yO:=z4X z7u λD O H ⟨Y,Z,s,r,en,h⟩=>okR.here (b:=FlV.nx O) h r en
theorem zd{f g:FS}(h1:RS X E st f)(h2:RSs X E rs g):RSs X E (st::rs) (zM f g):=z4X (z5y h1 h2) λD O H h=>za4 h
theorem zo{f:FS}(h1:RS X E st f):RSs X E [st] f:=z7t h1
def fNo:FS:=λ_ _=>.no
def z2q(f:FE):FS:=λZ s=>(f Z s).bind λ_ s1=>.ok (.nx Z) s1
theorem z5a {f:FE} (he:RE X E e f) (hs:swapsWith e none pos.line X.env=pure false:=by rfl):RS X E (.Expr e pos) (z2q f):= js (z89 he hs) λD O H ⟨Y,Z,s,r,en,h⟩=>zX (k:=λZ _ s1=>R.ok (Fl.nx Z) s1) r en h _ λv H1 Y1 s1 d r1 en1 dn stp h1=>okR.here (b:=FlV.nx O) (Q:=z0q D) h1 r1 en1
def xV(f:FE):FS:=λZ s=>(f Z s).bind λd s1=>.ok (.rt d) s1
theorem yc {f:FE} (he:RE X E e f):RS X E (.Return (some e) pos) (xV f):= js (z9l he) λD O H ⟨Y,Z,s,r,en,h⟩=>zX (k:=λZ d s1=>R.ok (Fl.rt d) s1) r en h _ λv H1 Y1 s1 d r1 en1 dn stp h1=>okR.here (b:=FlV.rt v) (Q:=z0q D) h1 r1 dn
def fIf(ft:FT)(f g:FS):FS:=λZ s=>(ft Z s).bind λx s1=>if x=true then f Z s1 else g Z s1
theorem jn{ft:FT}{f g:FS}{as bs:List Stmt}(hc:RT X E c ft)(ha:RSs X E as f)(hb:RSs X E bs g):RS X E (.If c as bs pos) (fIf ft f g):= js (zc6 hc ha hb) λD O H ⟨Y,Z,s,r,en,h⟩=>jI (k:=λZ x s1=>if x=true then f Z s1 else g Z s1) r en h _ λv H1 Y1 s1 r1 en1 stp h1=>by cases v with
  | true=>rw[_f rfl]at h1 ⊢;exact⟨Y1,Z,s1,r1,en1,h1⟩ | false=>rw[_o (by decide)]at h1 ⊢;exact⟨Y1,Z,s1,r1,en1,h1⟩
abbrev FG:=D->Ev->Sto->R Ev
def tG(mg:Gm)(E:XK)(f:FG):TG:=λv O H Q=>∃Y Z s d,Rep mg H Y s/\wQ mg H Y Z O/\Den mg H Y d v/\okR mg E H Y (wQ mg) (f d Z s) (λO' H'=>Q O' H')
def RG(X:Cx)(E:XK)(tg:Expr)(f:FG):Prop:=PG X tg (tG (gm X) E f)
theorem z8W{tg:Expr}{t t':TG}(h:PG X tg t)(i:∀v O H Q,t' v O H Q->t v O H Q):PG X tg t':=λpins s O H v u Q I r q=>h pins s O H v u Q I r (i v O H Q q)
def wa(i:Nat):FG:=λd Z s=>.ok (Z.set i (some d)) s
theorem qF(i:Nat){x:Str}(hN:X.N.Nodup)(hi:X.N[i]? = some x:=by rfl)(hx:Loc X.env.scope x:=by first | exact Or.inl rfl | exact Or.inr rfl)(hf:X.fn x=true\/X.env.scope.names.lookup x=some .local:=by first | exact .inl rfl | exact .inr rfl | assumption):RG X E (.Name x pos) (wa i):= z8W (xZ hN hi hx hf) λv O H Q ⟨Y,Z,s,d,r,en,dn,h⟩=>okR.here (b:=O.set i (some v)) h r (en.set dn i)
def z3Q(i j:Nat):FG:=λd Z s=>match d with | .tup [x,y]=>.ok ((Z.set i (some x)).set j (some y)) s | _=>.no
def wA(i:Nat)(f:FE):FS:=λZ s=>(f Z s).bind λd s1=>.ok (.nx (Z.set i (some d))) s1
theorem yg (i:Nat) {x:Str} {pos':Pos} {f:FE} (hN:X.N.Nodup) (he:RE X E e f) (hi:X.N[i]? = some x:=by rfl) (hx:Loc X.env.scope x:=by first | exact Or.inl rfl | exact Or.inr rfl) (hs:swapsWith e (some (.Name x pos')) pos.line X.env=pure false:=by rfl) (hf:X.fn x=true\/X.env.scope.names.lookup x=some .local:=by first | exact .inl rfl | exact .inr rfl | assumption):RS X E (.Assign [.Name x pos'] e pos) (wA i f):= js (zaH hN hi hx he hs hf) λD O H ⟨Y,Z,s,r,en,h⟩=>zX (k:=λZ d s1=>R.ok (Fl.nx (Z.set i (some d))) s1) r en h _ λv H1 Y1 s1 d r1 en1 dn stp h1=>okR.here (b:=FlV.nx (O.set i (some v))) (Q:=z0q D) h1 r1 (en1.set dn i)
def zdq(i j:Nat)(f:FA):FS:=λZ s=>(f Z s).bind λds s1=>match ds with | [x,y]=>.ok (.nx ((Z.set i (some x)).set j (some y))) s1 | _=>.no
def z1q(fo fi fv:FE):FS:=λZ s=>(fv Z s).bind λd s1=>(fo Z s1).bind λo s2=>(fi Z s2).bind λi s3=>match o,i with
 | .loc l,.int k=>match s3[l]? with
  | some xs=>match ixN xs.length k with
   | some j=>if d.flat=true then .ok (.nx Z) (s3.set l (xs.set j d)) else .no | none=>.no
  | none=>.no
 | _,_=>.no
theorem z0Y:∀{xs:List D}{d:D}{j:Nat},D.flat.flats xs=true->d.flat=true->D.flat.flats (xs.set j d)=true
 | [],_,_,_,_=>rfl | x::xs,d,0,h,hd=>by
  simp only[D.flat.flats,_q,_bj]at h ⊢;exact⟨hd,h.2⟩ | x::xs,d,j+1,h,hd=>by
  simp only[D.flat.flats,_q,_bk]at h ⊢;exact⟨h.1,z0Y h.2 hd⟩
theorem qE:∀{xs ys:List D},D.flat.flats xs=true->D.flat.flats ys=true->D.flat.flats (xs++ys)=true
 | [],_,_,h=>h | x::xs,ys,h,h'=>by
  simp only[D.flat.flats,_q,_bA]at h ⊢;exact⟨h.1,qE h.2 h'⟩
theorem z3g {o i:Expr} {p1:Pos} {fo fi fv:FE} (hv:RE X E e fv) (ho:RE X E o fo) (hi:RE X E i fi) (ha:∀v,assign (.Subscript o i p1) X.env v=(do
   let ov <- holding [v] (eval o X.env) let iv <- holding [v,ov] (eval i X.env)
   standAt p1
   holding [v,ov,iv] (setItem ov iv v)
   release [v,ov,iv] []):=by intro _;rfl) (hs:swapsWithSole [.Subscript o i p1] e pos.line X.env=pure false:=by rfl) (hw:swappedStores [.Subscript o i p1] e X.env=pure none:=by rfl) (h1:(assignEach [.Subscript o i p1] X.env).map (·.2)=[assign (.Subscript o i p1) X.env]:=by rfl):RS X E (.Assign [.Subscript o i p1] e pos) (z1q fo fi fv):= js (z9R hv (z8U ho hi set_list ha) hs hw h1) λD O H ⟨Y,Z,s,r,en,h⟩=>by
  unfold z1q at h;refine⟨Y,Z,s,r,en,(okR.bind (Dn:=Den (gm X)) h).imp λv H1 ⟨Y1,s1,d,stp,dn,h1⟩=>?_⟩;refine⟨Y1,Z,s1,stp.rep,en.mono stp,(okR.bind (Dn:=Den (gm X)) h1).imp λov H2 ⟨Y2,s2,od,stp2,dn2,h2⟩=>?_⟩;refine⟨Y2,Z,s2,stp2.rep,(en.mono stp).mono stp2,(okR.bind (Dn:=Den (gm X)) h2).imp λiv H3 ⟨Y3,s3,id,stp3,dn3,h3⟩=>?_⟩;have en3:=((en.mono stp).mono stp2).mono stp3;have dv:=(dn.mono stp2).mono stp3;have dov:=dn2.mono stp3;cases od with
  | loc l=> cases id with
   | int k=>
    simp only at h3;split at h3
    ·rename_i xs ex;split at h3
     ·rename_i j ej;split at h3
      ·rename_i hf;cases yp dn3;simp only[Den]at dov;obtain⟨a,rfl,e1,ka⟩:=dov;obtain⟨vs,q1,q2⟩:=stp3.rep.at_ ex e1 ka;have stp4:=yQ.put (l:=l) (xs:=xs.set j d) stp3.rep e1 ka (q2.set j dv) (z0Y (stp3.rep.flat xs (_r ex)) hf);exact⟨a,vs,k,j,rfl,rfl,q1,by rw[q2.length];exact ej,h3 (.nx O) _ _ stp4 (en3.mono stp4)⟩
      ·exact h3.elim
     ·exact h3.elim
    ·exact h3.elim | _=>exact h3.elim
  | _=>exact h3.elim
def z8Q(fo fv:FE):FE:=λZ s=>(fo Z s).bind λo s1=>match o with
 | .loc l=>(fv Z s1).bind λd s2=>match s2[l]? with
  | some xs=>if d.flat=true/\xs.length<cap then .ok .non (s2.set l (xs++[d])) else .no | none=>.no
 | _=>.no
theorem z3n {o:Expr} {apos:Pos} {fo fv:FE} (ho:RE X E o fo) (hv:RE X E e fv) (hbase:attributeBase o "append" X.env (eval o X.env)=eval o X.env:=by rfl) (hfew:((backTo pos (starEach [e] X.env)).all (λx=>!x.1)&&(backToKw pos (keywordEach [] X.env)).all (λx=>x.1.isSome) && decide ([e].length+([]:List Keyword).length+(if ([]:List Keyword).isEmpty then 0 else 1)<30))=true:=by rfl) (hline:(apos.endLine==pos.line)=true:=by rfl) (hs:starEach [e] X.env=(false,eval e X.env)::starEach [] X.env:=by rfl) (hplain:(backTo pos (starEach [] X.env)).any (·.1)=false:=by rfl): RE X E (.Call (.Attribute o "append" apos) [e] [] pos) (z8Q fo fv):= zF (z6t _aQ PySem.F.slot_list_append PySem.F.type_list_append z4T ho (yC hv vH hs) hbase hfew hline hs hplain) λO H Q ⟨Y,Z,s,r,en,h⟩=>by
  unfold z8Q at h;refine⟨Y,Z,s,r,en,(okR.bind (Dn:=Den (gm X)) h).imp λov H1 ⟨Y1,s1,od,stp,dn,h1⟩=>?_⟩;cases od with
  | loc l=>
   simp only at h1;have hty:tyV X.K "list" ov H1:=by
    simp only[Den]at dn;obtain⟨a,rfl,e1,vs,e2⟩:=dn;exact .inl ⟨rfl,vs,.inl (.inl e2)⟩
   refine⟨hty,⟨Y1,Z,s1,stp.rep,en.mono stp,(okR.bind (Dn:=Den (gm X)) h1).imp λv H2 ⟨Y2,s2,d,stp2,dn2,h2⟩=>?_⟩⟩;split at h2
   ·rename_i xs ex;split at h2
    ·rename_i hf;have dov:=dn.mono stp2;simp only[Den]at dov;obtain⟨a,rfl,e1,ka⟩:=dov;obtain⟨vs,q1,q2⟩:=stp2.rep.at_ ex e1 ka;have stp3:=yQ.put (l:=l) (xs:=xs++[d]) stp2.rep e1 ka (q2.append (zv.one dn2)) (qE (stp2.rep.flat xs (_r ex)) (by simp[D.flat.flats,hf.1]));refine⟨a,vs,v,rfl,rfl,q1,by rw[q2.length];exact zaF hf.2,h2 .non _ _ stp3 (by simp[Den])⟩
    ·exact h2.elim
   ·exact h2.elim | _=>exact h1.elim
end
end Dd
namespace L2
theorem zaf{X:Cx}{tg l:Expr}{tl:TE}(hl:PE X l tl):PI X tg l (λO H R=>tl O H λx H1=>∃a,x=.ref a/\(((∃xs,SqL X.K H1 a xs)/\R (Itl X.K a) H1)\/((∃xs,SqT X.K H1 a xs)/\R (Itt X.K a) H1))):=by
 intro pins s O H R I h;refine thn (hl pins s O H _ I h) λv s1 ⟨x,H1,I1,r1,q1⟩=>?_;obtain⟨a,e,q⟩:=q1;subst e;cases r1;rcases q with⟨⟨xs,hq⟩,q⟩ | ⟨⟨xs,hq⟩,q⟩
 ·obtain⟨its,rv,p,hz⟩:=I1.list hq;refine wpAny_pyIter_list p.isList ?_;refine⟨s1.heap.objs.size,[s1.heap.objs.size],_,_,H1,rfl,I1.kept (t':=s1.toks) λb o e=>_d _ e,z4Q a _,⟨_,_m _ rfl,rfl,rfl⟩,λb hb=>?_,q⟩;have e:b=s1.heap.objs.size:=by simpa using hb
  subst e;exact I1.fpOk (_i _) (I1.hok.fresh (_i _))
 ·obtain⟨its,rv,p,hz⟩:=I1.tuple hq;refine wpAny_pyIter_tuple (show s1.heap.IsTuple a its.toArray from p) ?_;refine⟨s1.heap.objs.size,[s1.heap.objs.size],_,_,H1,rfl,I1.kept (t':=s1.toks) λb o e=>_d _ e,z3W a _,⟨_,_m _ rfl,rfl,rfl⟩,λb hb=>?_,q⟩;have e:b=s1.heap.objs.size:=by simpa using hb
  subst e;exact I1.fpOk (_i _) (I1.hok.fresh (_i _))
end L2
namespace Dd
open L2
abbrev ItD:=List D×List (Nat×List D)
def okG(g:List (Nat×List D))(all:List D)(s:Sto):Prop:=∀p∈g,s[p.1]? = some p.2
def z8m(mg:Gm)(H0:Hp)(Y0:List Addr)(a:ItD)(J:It):Prop:=∀H Y s,yQ mg H0 Y0 H Y s->okG a.2 a.1 s->∀i:Nat, (∀d,a.1[i]? = some d->J.go i H/\∀x H',J.yld i H x H'->∃Y',yQ mg H Y H' Y' s/\Den mg H' Y' d x)/\(a.1.length<=i->J.stop i H)
abbrev FI:=Ev->Sto->R ItD
def tI(mg:Gm)(E:XK)(f:FI):TI:=λO H Rr=>∃Y Z s,Rep mg H Y s/\wQ mg H Y Z O/\okR mg E H Y (z8m mg) (f Z s) Rr
def RI(X:Cx)(E:XK)(tg it:Expr)(f:FI):Prop:=PI X tg it (tI (gm X) E f)
section
variable {X:Cx}{E:XK}{e a b c tg:Expr}{es:List Expr}{pos:Pos}{CX:CXT}
theorem z2P{it:Expr}{t t':TI}(h:PI X tg it t)(i:∀O H Q,t' O H Q->t O H Q):PI X tg it t':=λpins s O H Q I q=>h pins s O H Q I (i O H Q q)
def xu(f:FE):FI:=λZ s=>(f Z s).bind λd s1=>match d with
 | .tup xs=>.ok (xs,[]) s1 | .lst xs=>.ok (xs,[]) s1 | .loc l=>match s1[l]? with | some xs=>.ok (xs,[(l,xs)]) s1 | none=>.no
 | _=>.no
theorem kB{f:FE}(h:RE X E e f):RI X E tg e (xu f):=z2P (zaf h) λO H Q ⟨Y,Z,s,r,en,h⟩=>by
 unfold xu at h;refine⟨Y,Z,s,r,en,(okR.bind (Dn:=Den (gm X)) h).imp λv H1 ⟨Y1,s1,d,stp,dn,h1⟩=>?_⟩;have lst:∀(a:Addr)(xs:List D)(g:List (Nat×List D)),(∀H2 Y2 s2,yQ (gm X) H1 Y1 H2 Y2 s2->okG g xs s2->∃ws,SqL X.K H2 a ws/\zv (gm X) H2 Y2 xs ws)->z8m (gm X) H1 Y1 (xs,g) (Itl X.K a):=λa xs g hq H2 Y2 s2 stp2 hg i=>by
  obtain⟨ws,q1,q2⟩:=hq H2 Y2 s2 stp2 hg;refine⟨λd hd=>?_,λhl=>⟨ws,q1,by rw[q2.length];exact hl⟩⟩;obtain⟨v,e1,e2⟩:=q2.get hd;refine⟨⟨ws,v,q1,e1⟩,λx H' ⟨e3,y⟩=>?_⟩;subst e3;have e4:=y ws q1;rw[e1]at e4;cases e4;exact⟨Y2,.refl stp2.rep,e2⟩
 have tup:∀(a:Addr)(xs:List D),(∀H2 Y2 s2,yQ (gm X) H1 Y1 H2 Y2 s2->∃ws,SqT X.K H2 a ws/\zv (gm X) H2 Y2 xs ws)->z8m (gm X) H1 Y1 (xs,[]) (Itt X.K a):=λa xs hq H2 Y2 s2 stp2 hg i=>by
  obtain⟨ws,q1,q2⟩:=hq H2 Y2 s2 stp2;refine⟨λd hd=>?_,λhl=>⟨ws,q1,by rw[q2.length];exact hl⟩⟩;obtain⟨v,e1,e2⟩:=q2.get hd;refine⟨⟨ws,v,q1,e1⟩,λx H' ⟨e3,y⟩=>?_⟩;subst e3;have e4:=y ws q1;rw[e1]at e4;cases e4;exact⟨Y2,.refl stp2.rep,e2⟩
 cases d with
 | tup xs=>
  have h1':okR (gm X) E H1 Y1 (z8m (gm X)) (.ok (xs,[]) s1) Q:=h1;obtain⟨a,vs,rfl,q1,q2⟩:=uR (K:=X.K) dn;refine⟨a,rfl,.inr ⟨⟨vs,q1⟩,h1'.here stp.rep (tup a xs λH2 Y2 s2 stp2=>?_)⟩⟩;have dn2:=dn.mono stp2;obtain⟨a',ws,e,q3,q4⟩:=uR (K:=X.K) dn2;cases e;exact⟨ws,q3,q4⟩ | lst xs=>
  have h1':okR (gm X) E H1 Y1 (z8m (gm X)) (.ok (xs,[]) s1) Q:=h1;obtain⟨a,vs,rfl,q1,q2⟩:=zJ (d:=.lst xs) stp.rep rfl dn;refine⟨a,rfl,.inl ⟨⟨vs,.inl q1⟩,h1'.here stp.rep (lst a xs [] λH2 Y2 s2 stp2 _=>?_)⟩⟩;obtain⟨a',ws,e,q3,q4⟩:=zJ (d:=.lst xs) stp2.rep rfl (dn.mono stp2);cases e;exact⟨ws,.inl q3,q4⟩ | loc l=>
  simp only at h1;split at h1
  ·rename_i xs ex;obtain⟨a,vs,rfl,q1,q2⟩:=zJ (d:=.loc l) stp.rep ex dn;refine⟨a,rfl,.inl ⟨⟨vs,.inl q1⟩,h1.here stp.rep (lst a xs [(l,xs)] λH2 Y2 s2 stp2 hg=>?_)⟩⟩;obtain⟨a',ws,e,q3,q4⟩:=zJ (d:=.loc l) stp2.rep (hg (l,xs) (by simp)) (dn.mono stp2);cases e;exact⟨ws,.inl q3,q4⟩
  ·exact h1.elim | _=>exact h1.elim
end
section
variable {X:Cx}{E:XK}{e a b c tg:Expr}{es:List Expr}{pos:Pos}{CX:CXT}
def yL(n:Nat):List D:=(List.range n).map λ(k:Nat)=>D.int ((k:Nat):Int)
def z7r(f:FA):FI:=λZ s=>(f Z s).bind λds s1=>match ds with
 | [.int j]=>if -(2 ^ 62)<=j/\j<2 ^ 62 then .ok (yL j.toNat,[]) s1 else .no | _=>.no
theorem z2f{p:Pos}{f:FA}(hg:Gl X "range")(hm:X.mg "range"=none)(ha:RA X E [a] f)(hs:starEach [a] X.env=[(false,eval a X.env)]:=by rfl):RI X E tg (.Call (.Name "range" p) [a] [] pos) (z7r f):= z2P (z5i hg hm ha hs) λO H Q ⟨Y,Z,s,r,en,h⟩=>by
  unfold z7r at h;refine⟨Y,Z,s,r,en,(okR.bind (Dn:=zv (gm X)) h).imp λvs H1 ⟨Y1,s1,ds,stp,dn,h1⟩=>?_⟩;split at h1
  ·rename_i j;split at h1
   ·rename_i hj;obtain⟨v,rfl,d1⟩:=qJ dn;cases yp d1;refine⟨j,rfl,hj.1,hj.2,h1.here stp.rep λH2 Y2 s2 stp2 _ i=>⟨λd hd=>?_,λhl=>?_⟩⟩
    ·have hi:i<j.toNat:=by
      have:=(_b.mp hd).1;simpa[yL] using this
     refine⟨hi,λx H' ⟨e1,e2⟩=>?_⟩;subst e1 e2;refine⟨Y2,.refl stp2.rep,?_⟩;have e3:d=D.int i:=by
      simp only[yL,_S,List.getElem?_range hi,_aJ,_I]at hd;exact hd.symm
     rw[e3];simp[Den]
    ·have:(yL j.toNat).length=j.toNat:=by simp[yL]
     show j.toNat<=i;rw[<- this];exact hl
   ·exact h1.elim
  ·exact h1.elim
open Classical in
def yJ(g:List (Nat×List D))(all:List D)(body:D->Ev->Sto->R Fl):List D->Ev->Sto->R Fl
 | [],Z,s=>if okG g all s then .ok (.nx Z) s else .no | x::xs,Z,s=>if okG g all s then (body x Z s).bind λfl s1=>match fl with
   | .nx Z'=>yJ g all body xs Z' s1 | .ct Z'=>yJ g all body xs Z' s1 | .bk Z'=>.ok (.nx Z') s1 | .rt d=>.ok (.rt d) s1 else .no
def z4t(fi:FI)(fg:FG)(fb:FS):FS:=λZ s=>(fi Z s).bind λit s1=>yJ it.2 it.1 (λd Z s=>(fg d Z s).bind λZ' s'=>fb Z' s') it.1 Z s1
theorem z1C {iter:Expr} {body:List Stmt} {fi:FI} {fg:FG} {fb:FS} (hp:PassesOwn (model X.prog X.w) X.A X.env X.xe) (hc:X.calm=true) (hi:RI X E tg iter fi) (hg:RG X E tg fg) (hb:RSs X E body fb) (hs:∀x,foldedSetIterable iter X.env x=pure x:=by intro _;rfl):RS X E (.For tg iter body [] pos) (z4t fi fg fb):= js (z9X hp hc hi hg hb hs) λD O H ⟨Y,Z,s,r,en,h⟩=>by
  unfold z4t at h;refine⟨Y,Z,s,r,en,(okR.bind (Dn:=z8m (gm X)) h).imp λJ H1 ⟨Y1,s1,it,stp,ok,h1⟩=>?_⟩;obtain⟨items,g⟩:=it;simp only at h1;refine⟨λi m O H=>∃Y Z s,yQ (gm X) H1 Y1 H Y s/\wQ (gm X) H Y Z O/\m=items.length-i/\i<=items.length/\ okR (gm X) E H Y (FlD (gm X)) (yJ g items (λd Z s=>(fg d Z s).bind λZ' s'=>fb Z' s') (items.drop i) Z s) (z0q D), ⟨items.length,Y1,Z,s1,.refl stp.rep,en.mono stp,by simp,Nat.zero_le _,by simpa using h1⟩,?_⟩;rintro i m O H ⟨Y2,Z2,s2,stp2,en2,rfl,hil,h2⟩;by_cases hlt:i<items.length
  ·right;rw[_aF hlt,yJ]at h2;split at h2
   ·rename_i hG;obtain⟨go,yl⟩:=((ok H Y2 s2 stp2 hG i).1 items[i] (_t hlt));refine⟨go,λO' H'=>∃Y Z s,yQ (gm X) H1 Y1 H' Y s/\wQ (gm X) H' Y Z O'/\okR (gm X) E H' Y (FlD (gm X)) (yJ g items (λd Z s=>(fg d Z s).bind λZ' s'=>fb Z' s') (items.drop (i+1)) Z s) (z0q D), λO' H' ⟨Y3,Z3,s3,q1,q2,q3⟩=>⟨items.length-(i+1),by omega,Y3,Z3,s3,q1,q2,rfl,hlt,q3⟩,λx H' y=>?_⟩;obtain⟨Y3,stp3,dn3⟩:=yl x H' y;have h3:=okR.rebase h2 stp3;have h4:=okR.bind (Dn:=FlD (gm X)) h3;refine⟨Y3,Z2,s2,items[i],stp3.rep,en2.mono stp3,dn3,(okR.bind (Dn:=wQ (gm X)) h4).imp λO5 H5 ⟨Y5,s5,Z5,stp5,en5,h5⟩=>?_⟩;refine⟨Y5,Z5,s5,stp5.rep,en5,h5.imp λfv H6 ⟨Y6,s6,fl,stp6,dn6,q6⟩=>?_⟩;have all6:yQ (gm X) H1 Y1 H6 Y6 s6:=(stp2.trans stp3).trans stp6;cases fl with
    | nx Z'=> cases fv with
     | nx O'=>exact⟨Y6,Z',s6,all6,dn6,q6⟩ | _=>exact (show False from dn6).elim
    | ct Z'=> cases fv with
     | ct O'=>exact⟨Y6,Z',s6,all6,dn6,q6⟩ | _=>exact (show False from dn6).elim
    | bk Z'=> cases fv with
     | bk O'=>exact okR.here (b:=FlV.nx O') (Q:=z0q D) (a:=Fl.nx Z') (s:=s6) q6 stp6.rep dn6 | _=>exact (show False from dn6).elim
    | rt d=> cases fv with
     | rt v=>exact okR.here (b:=FlV.rt v) (Q:=z0q D) (a:=Fl.rt d) (s:=s6) q6 stp6.rep dn6 | _=>exact (show False from dn6).elim
   ·exact h2.elim
  ·left;have e:i=items.length:=by omega
   subst e;rw[List.drop_length,yJ]at h2;split at h2
   ·rename_i hG;exact⟨(ok H Y2 s2 stp2 hG _).2 (_i _),okR.here (b:=FlV.nx O) (Q:=z0q D) h2 stp2.rep en2⟩
   ·exact h2.elim
end
end Dd
namespace Zz
def Sit(b:Bool)(h:Heap)(it l:Addr)(k:Nat):Prop:=match b with
 | true=>h.IsListIter it l k | false=>h.IsTupleIter it l k
def Sco(b:Bool)(h:Heap)(l:Addr)(xs:Array Value):Prop:=match b with
 | true=>h.IsList l xs | false=>h.IsTuple l xs
theorem Sit.to{b:Bool}{h h':Heap}{it l:Addr}{k:Nat}(x:Sit b h it l k)(e:∀o,h.get? it=some o->h'.get? it=some o):Sit b h' it l k:=by cases b with
 | true=>obtain⟨o,ho,r⟩:=x;exact⟨o,e _ ho,r⟩ | false=>obtain⟨o,ho,r⟩:=x;exact⟨o,e _ ho,r⟩
theorem Sco.to{b:Bool}{h h':Heap}{l:Addr}{xs:Array Value}(x:Sco b h l xs)(e:∀o,h.get? l=some o->h'.get? l=some o):Sco b h' l xs:=by cases b with
 | true=>obtain⟨o,ho,r⟩:=x;exact⟨o,e _ ho,r⟩ | false=>obtain⟨o,ho,r⟩:=x;exact⟨o,e _ ho,r⟩
theorem Sit.lt{b:Bool}{h:Heap}{it l:Addr}{k:Nat}(x:Sit b h it l k):it<h.objs.size:=by cases b with
 | true=>obtain⟨o,ho,r⟩:=x;exact _h ho | false=>obtain⟨o,ho,r⟩:=x;exact _h ho
theorem Sit.ob{b:Bool}{h:Heap}{it l:Addr}{k:Nat}(x:Sit b h it l k):∃o,h.get? it=some o/\∀v,o.data≠.cell v:=by cases b with
 | true=>obtain⟨o,ho,_,d⟩:=x;exact⟨o,ho,λv z=>by rw[d]at z;cases z⟩ | false=>obtain⟨o,ho,_,d⟩:=x;exact⟨o,ho,λv z=>by rw[d]at z;cases z⟩
section
variable {P:Program}{w:World}{A:Around}{E:Value->Shared->Prop}{s:Shared}
theorem z9e{it l:Addr}{k:Nat}{xs:Array Value}{x:Value}{R:Value->Shared->Prop}(h1:s.heap.IsTupleIter it l k)(h2:s.heap.IsTuple l xs)(e:xs[k]? = some x) (q:∀h',h'.IsTupleIter it l (k+1)->Heap.SameBut it s.heap h'->R x {s with heap:=h'}):wpAny (model P w) A (Builtin.SmallTypes.nextOf (.ref it)) R E s:=by
 obtain⟨o,ho,hc,hd⟩:=id h1;obtain⟨ol,hol,_,nl,hdl⟩:=h2;unfold Builtin.SmallTypes.nextOf;refine _a (_Y (name:=Str.ofString "__next__") h1.typeIs _ak (_at _ak h1.typeIs F.entry_tuple_iterator_next ?_ (F.args_tuple_iterator_next_1 _)));show wpAny _ _ (field (.ref it) 0 >>= _) _ _ s;refine _a (_T ho hd (x:=.ref l) rfl ?_);show wpAny _ _ (if (Value.ref l==Value.none)=true then _ else _) _ _ s;rw[_o (show ¬ ((Value.ref l==Value.none)=true) from _K)];show wpAny _ _ (field (.ref it) 1 >>= _) _ _ s;refine _a (_T ho hd (x:=.int k 0) rfl ?_);show wpAny _ _ (seqItems? (.ref l) >>= _) _ _ s;refine _a (_al hol hdl ?_);simp only[_aS,e];refine _a (wpAny_setField ho hd (by simp) (_k ⟨x,rfl,_k (q _ ?_ (Heap.SameBut.update ..))⟩));exact⟨_,Heap.get?_update_self _ ho (Obj.isFreed_of_fields (Obj.data_mapFields hd _)),(Obj.cls_mapFields ..).trans hc,by rw[Obj.data_mapFields hd];simp[rawInt]⟩
theorem z3I {it l:Addr} {k:Nat} {xs:Array Value} {R:Value->Shared->Prop} (hh:A.handled=none) (h1:s.heap.IsTupleIter it l k) (h2:s.heap.IsTuple l xs) (e:xs[k]? = none) (q:∀h' e,Heap.ExtBut it s.heap h'->(∃o,h'.get? e=some o/\o.cls=.type "StopIteration")->E (.ref e) {s with heap:=h'}):wpAny (model P w) A (Builtin.SmallTypes.nextOf (.ref it)) R E s:=by
 obtain⟨o,ho,hc,hd⟩:=id h1;obtain⟨ol,hol,_,nl,hdl⟩:=h2;unfold Builtin.SmallTypes.nextOf;refine _a (_Y (name:=Str.ofString "__next__") h1.typeIs _ak (_at _ak h1.typeIs F.entry_tuple_iterator_next ?_ (F.args_tuple_iterator_next_1 _)));show wpAny _ _ (field (.ref it) 0 >>= _) _ _ s;refine _a (_T ho hd (x:=.ref l) rfl ?_);show wpAny _ _ (if (Value.ref l==Value.none)=true then _ else _) _ _ s;rw[_o (show ¬ ((Value.ref l==Value.none)=true) from _K)];show wpAny _ _ (field (.ref it) 1 >>= _) _ _ s;refine _a (_T ho hd (x:=.int k 0) rfl ?_);show wpAny _ _ (seqItems? (.ref l) >>= _) _ _ s;refine _a (_al hol hdl ?_);simp only[_aS,e];refine _a (wpAny_rule (_a (wpAny_setField ho hd (by simp) ?_)));show wpAny _ _ (newExc (.type "StopIteration") [] >>= _) _ _ _;refine _a ?_;simp only[newExc,newTuple];refine _a (_ah ?_ (by size_fits));refine _a (m:=firstArgMember _ _) (wpAny_of_eq (a:=Value.none) (by first | rfl | (simp only[firstArgMember];rfl)) ?_);refine _ah ?_ (by size_fits);simp only[raiseNew];refine _a (wpAny_handled ?_);first | rw[show A.in1.handled=none from hh] | rw[hh]
 refine _a (_k (wpAny_throw ?_));exact q _ _ (((Heap.SameBut.update ..).extBut.push _).push _) ⟨_,_m _ rfl,rfl⟩
theorem nx{b:Bool}{it l:Addr}{k:Nat}{xs:Array Value}{x:Value}{R:Value->Shared->Prop}(h1:Sit b s.heap it l k)(h2:Sco b s.heap l xs)(e:xs[k]? = some x) (q:∀h',Sit b h' it l (k+1)->Heap.SameBut it s.heap h'->R x {s with heap:=h'}):wpAny (model P w) A (Builtin.SmallTypes.nextOf (.ref it)) R E s:=by cases b with
 | true=>exact wpAny_nextOf_list_item h1 h2 e q | false=>exact z9e h1 h2 e q
theorem z6V {b:Bool} {it l:Addr} {k:Nat} {xs:Array Value} {R:Value->Shared->Prop} (hh:A.handled=none) (h1:Sit b s.heap it l k) (h2:Sco b s.heap l xs) (e:xs[k]? = none) (q:∀h' e,Heap.ExtBut it s.heap h'->(∃o,h'.get? e=some o/\o.cls=.type "StopIteration")->E (.ref e) {s with heap:=h'}):wpAny (model P w) A (Builtin.SmallTypes.nextOf (.ref it)) R E s:=by cases b with
 | true=>exact wpAny_nextOf_list_end hh h1 h2 e q | false=>exact z3I hh h1 h2 e q
theorem zp{a:Addr}{h h':Heap}(hs:Heap.SameBut a h h'){b:Addr}{o:Obj}(n:b≠a)(e:h.get? b=some o):h'.get? b=some o:=hs.extBut _ _ n e
theorem z7v {z TI TO i1 i2 l1 l2:Addr} {b1 b2:Bool} {k:Nat} {xs ys:Array Value} {x y a b:Value} {Q:Option Value->Shared->Prop} (D:ZipApart z TI TO i1 i2 l1 l2) (hz:IsZip s.heap z TI TO .none) (hTI:IsPair s.heap TI (.ref i1) (.ref i2)) (hTO:IsPair s.heap TO a b) (h1:Sit b1 s.heap i1 l1 k) (h2:Sit b2 s.heap i2 l2 k) (c1:Sco b1 s.heap l1 xs) (c2:Sco b2 s.heap l2 ys) (ex:xs[k]? = some x) (ey:ys[k]? = some y) (q:∀h',IsZip h' z TI TO (rawInt s.heap.objs.size)->IsPair h' TO x y->Sit b1 h' i1 l1 (k+1)->Sit b2 h' i2 l2 (k+1)->IsPair h' s.heap.objs.size x y->h'.objs.size=s.heap.objs.size+1-> (∀c o,c≠z->c≠TO->c≠i1->c≠i2->s.heap.get? c=some o->h'.get? c=some o)->Q (some (.ref s.heap.objs.size)) {s with heap:=h'}):wpAny (model P w) A (pyNext (.ref z)) Q E s:=by
 have hT:s.TypeIs (.ref z) "zip":=⟨_,hz,rfl⟩;unfold pyNext;refine _a (wpAny_attempt (_Y (name:=Str.ofString "__next__") hT _a9 (_at _a9 hT F.entry_zip_next (Q:=λv s'=>wpAny (model P w) A (pure (some v)) Q E s') ?_ (F.args_zip_next_1 _))));show wpAny _ _ (field (.ref z) 2 >>= _) _ _ _;refine _a (_T hz rfl (x:=.bool false) rfl ?_);show wpAny _ _ (field (.ref z) 3 >>= _) _ _ _;refine _a (_T hz rfl (x:=.ref TI) rfl ?_);refine _a (_al hTI rfl ?_);show wpAny _ _ (Builtin.SmallTypes.ownedTupleIsFree (.ref z) >>= _) _ _ _;refine _a ?_;unfold Builtin.SmallTypes.ownedTupleIsFree;refine _a (_T hz rfl (x:=.none) rfl (_k ?_));simp only[_H];refine _a (wpAny_rule ?_);refine _a (_T hz rfl (x:=.ref TO) rfl ?_);refine _a (_am hz (by simp) λg1 z1 s1=>?_);replace z1:IsZip g1 z TI TO .ellipsis:=z1;refine _a ?_;simp only[List.zipIdx_cons,List.zipIdx_nil,List.forIn_cons,List.forIn_nil];refine _a (_a (_bu ?_));show wpAny _ _ (Builtin.SmallTypes.nextOf (.ref i1) >>= _) _ _ _;refine _a (nx (h1.to λo e=>zp s1 D.i1z e) (c1.to λo e=>zp s1 D.l1z e) ex λg2 t2 s2=>_k ?_);have o2:IsPair g2 TO a b:=zp s2 D.TOi1 (zp s1 D.TOz hTO);refine _a (_al o2 rfl ?_);refine _a (_a2 o2 λg3 o3 s3=>?_);replace o3:IsPair g3 TO x b:=o3;refine _a (wpAny_letGo (_k ?_));refine _a (_a (_bu ?_));show wpAny _ _ (Builtin.SmallTypes.nextOf (.ref i2) >>= _) _ _ _;refine _a (nx (h2.to λo e=>zp s3 D.TOi2.symm (zp s2 D.i12.symm (zp s1 D.i2z e))) (c2.to λo e=>zp s3 D.l2TO (zp s2 D.l2i1 (zp s1 D.l2z e))) ey λg4 t4 s4=>_k ?_);have o4:IsPair g4 TO x b:=zp s4 D.TOi2 o3;refine _a (_al o4 rfl ?_);refine _a (_a2 o4 λg5 o5 s5=>?_);replace o5:IsPair g5 TO x y:=o5;refine _a (wpAny_letGo (_k (_k ?_)));refine _a (_al o5 rfl ?_);refine _a (wpAny_newTuple ?_);have sz:g5.objs.size=s.heap.objs.size:=by rw[s5.1,s4.1,s3.1,s2.1,s1.1]
 have z5:IsZip g5 z TI TO .ellipsis:=zp s5 D.TOz.symm (zp s4 D.i2z.symm (zp s3 D.TOz.symm (zp s2 D.i1z.symm z1)));have k5:∀c o,c≠z->c≠TO->c≠i1->c≠i2->s.heap.get? c=some o->g5.get? c=some o:=λc o n1 n2 n3 n4 e=>zp s5 n2 (zp s4 n4 (zp s3 n2 (zp s2 n3 (zp s1 n1 e))));have t5:Sit b1 g5 i1 l1 (k+1):=t2.to λo e=>zp s5 D.TOi1.symm (zp s4 D.i12 (zp s3 D.TOi1.symm e));have u5:Sit b2 g5 i2 l2 (k+1):=t4.to λo e=>zp s5 D.TOi2.symm e;have zl:z<g5.objs.size:=_h z5;show wpAny _ _ (Builtin.SmallTypes.ownedTupleHandOut (.ref z) (.ref g5.objs.size) >>= _) _ _ _;refine _a ?_;unfold Builtin.SmallTypes.ownedTupleHandOut;have z6:IsZip (g5.push {cls:=.type "tuple",data:=.seq #[x,y]}) z TI TO .ellipsis:=_d _ z5;refine _a (_am z6 (by simp) λg7 z7 s7=>?_);replace z7:IsZip g7 z TI TO (rawInt g5.objs.size):=z7;refine _am z7 (by simp) λg8 z8 s8=>?_;replace z8:IsZip g8 z TI TO (rawInt g5.objs.size):=z8;have up:∀c o,c≠z->g5.get? c=some o->g8.get? c=some o:=λc o n e=>zp s8 n (zp s7 n (_d _ e));have p8:IsPair g8 g5.objs.size x y:=zp s8 (_bJ zl) (zp s7 (_bJ zl) (_m _ rfl));have e8:g8.objs.size=g5.objs.size+1:=by rw[s8.1,s7.1,_ab]
 rw[sz]at z8 p8 e8;refine _k ⟨_,rfl,_k ?_⟩;show Q (some (.ref g5.objs.size)) _;rw[sz];exact q g8 z8 (up _ _ D.TOz o5) (t5.to λo e=>up _ o D.i1z e) (u5.to λo e=>up _ o D.i2z e) p8 e8 λc o n1 n2 n3 n4 e=>up c o n1 (k5 c o n1 n2 n3 n4 e)
theorem zap {z TI TO i1 i2 l1 l2:Addr} {b1 b2:Bool} {k:Nat} {xs ys:Array Value} {a b:Value} {Q:Option Value->Shared->Prop} (hh:A.handled=none) (D:ZipApart z TI TO i1 i2 l1 l2) (hz:IsZip s.heap z TI TO .none) (hTI:IsPair s.heap TI (.ref i1) (.ref i2)) (hTO:IsPair s.heap TO a b) (h1:Sit b1 s.heap i1 l1 k) (h2:Sit b2 s.heap i2 l2 k) (c1:Sco b1 s.heap l1 xs) (c2:Sco b2 s.heap l2 ys) (en:xs[k]? = none\/ys[k]? = none) (q:∀h',(∀c o,c≠z->c≠TO->c≠i1->c≠i2->s.heap.get? c=some o->h'.get? c=some o)->Q none {s with heap:=h'}):wpAny (model P w) A (pyNext (.ref z)) Q E s:=by
 have hT:s.TypeIs (.ref z) "zip":=⟨_,hz,rfl⟩;have fin:∀h' e,(∀c o,c≠z->c≠TO->c≠i1->c≠i2->s.heap.get? c=some o->h'.get? c=some o)->(∃o,h'.get? e=some o/\o.cls=.type "StopIteration")-> wpAny (model P w) A (isInstance (.ref e) (.type "StopIteration") >>= λb=>if b=true then (pure none:Sem (Option Value)) else throw (.ref e)) Q E {s with heap:=h'}:=λh' e hk he=>by
  obtain⟨o,ho,hc⟩:=he;refine _a (wpAny_isInstance (T:="StopIteration") (b:=true) ⟨o,ho,hc⟩ isSubtype_stop ?_);exact _k (q _ hk)
 unfold pyNext;refine _a (wpAny_attempt (_Y (name:=Str.ofString "__next__") hT _a9 (_at _a9 hT F.entry_zip_next ?_ (F.args_zip_next_1 _))));show wpAny _ _ (field (.ref z) 2 >>= _) _ _ _;refine _a (_T hz rfl (x:=.bool false) rfl ?_);show wpAny _ _ (field (.ref z) 3 >>= _) _ _ _;refine _a (_T hz rfl (x:=.ref TI) rfl ?_);refine _a (_al hTI rfl ?_);show wpAny _ _ (Builtin.SmallTypes.ownedTupleIsFree (.ref z) >>= _) _ _ _;refine _a ?_;unfold Builtin.SmallTypes.ownedTupleIsFree;refine _a (_T hz rfl (x:=.none) rfl (_k ?_));simp only[_H];refine _a (wpAny_rule ?_);refine _a (_T hz rfl (x:=.ref TO) rfl ?_);refine _a (_am hz (by simp) λg1 z1 s1=>?_);replace z1:IsZip g1 z TI TO .ellipsis:=z1;refine _a ?_;simp only[List.zipIdx_cons,List.zipIdx_nil,List.forIn_cons,List.forIn_nil];refine _a (_a (_bu ?_));show wpAny _ _ (Builtin.SmallTypes.nextOf (.ref i1) >>= _) _ _ _;cases ex:xs[k]? with
 | none=>
  refine _a (z6V hh (h1.to λo e=>zp s1 D.i1z e) (c1.to λo e=>zp s1 D.l1z e) ex λg2 e s2 he=>?_);obtain⟨oe,hoe,hce⟩:=he;have z2:IsZip g2 z TI TO .ellipsis:=s2 _ _ D.i1z.symm z1;have ez:e≠z:=λt=>by subst t;rw[z2]at hoe;cases hoe;simp at hce
  exact _am z2 (by simp) λg3 _ s3=>fin g3 e (λc o n1 _ n3 _ t=>zp s3 n1 (s2 _ _ n3 (zp s1 n1 t))) ⟨oe,zp s3 ez hoe,hce⟩ | some x=>
  have ey:ys[k]? = none:=by rcases en with t | t;rw[ex]at t;cases t;exact t
  refine _a (nx (h1.to λo e=>zp s1 D.i1z e) (c1.to λo e=>zp s1 D.l1z e) ex λg2 t2 s2=>_k ?_);have o2:IsPair g2 TO a b:=zp s2 D.TOi1 (zp s1 D.TOz hTO);refine _a (_al o2 rfl ?_);refine _a (_a2 o2 λg3 o3 s3=>?_);refine _a (wpAny_letGo (_k ?_));refine _a (_a (_bu ?_));show wpAny _ _ (Builtin.SmallTypes.nextOf (.ref i2) >>= _) _ _ _;refine _a (z6V hh (h2.to λo e=>zp s3 D.TOi2.symm (zp s2 D.i12.symm (zp s1 D.i2z e))) (c2.to λo e=>zp s3 D.l2TO (zp s2 D.l2i1 (zp s1 D.l2z e))) ey λg4 e s4 he=>?_);obtain⟨oe,hoe,hce⟩:=he;have z4:IsZip g4 z TI TO .ellipsis:=s4 _ _ D.i2z.symm (zp s3 D.TOz.symm (zp s2 D.i1z.symm z1));have ez:e≠z:=λt=>by subst t;rw[z4]at hoe;cases hoe;simp at hce
  exact _am z4 (by simp) λg5 _ s5=>fin g5 e (λc o n1 n2 n3 n4 t=>zp s5 n1 (s4 _ _ n4 (zp s3 n2 (zp s2 n3 (zp s1 n1 t))))) ⟨oe,zp s5 ez hoe,hce⟩
end
def itO(b:Bool)(l:Addr):Obj:=match b with
 | true=>{cls:=.type "list_iterator",data:=.fields #[.ref l,.int 0 0]} | false=>{cls:=.type "tuple_iterator",data:=.fields #[.ref l,.int 0 0]}
theorem z2U{b:Bool}{h:Heap}{a l:Addr}(e:h.get? a=some (itO b l)):Sit b h a l 0:=by cases b with
 | true=>exact⟨_,e,rfl,rfl⟩ | false=>exact⟨_,e,rfl,rfl⟩
theorem z0A(b:Bool)(l:Addr):(itO b l).isFreed=false:=by cases b<;>rfl
section
variable {P:Program}{w:World}{A:Around}{E:Value->Shared->Prop}{s:Shared}
theorem z4r {b:Bool} {l:Addr} {xs:Array Value} {Q:Value->Shared->Prop} (h:Sco b s.heap l xs) (q:Q (.ref s.heap.objs.size) {s with heap:=s.heap.push (itO b l)}):wpAny (model P w) A (pyIter (.ref l)) Q E s:=by cases b with
 | true=>exact wpAny_pyIter_list h q | false=>exact wpAny_pyIter_tuple h q
end
abbrev G1(b1:Bool)(h:Heap)(l1:Addr):Heap:=h.push (itO b1 l1)
abbrev G2(b1 b2:Bool)(h:Heap)(l1 l2:Addr):Heap:=(G1 b1 h l1).push (itO b2 l2)
abbrev G3(b1 b2:Bool)(h:Heap)(l1 l2:Addr):Heap:=(G2 b1 b2 h l1 l2).push {cls:=.type "tuple",data:=.seq #[.ref h.objs.size,.ref (G1 b1 h l1).objs.size]}
abbrev G4(b1 b2:Bool)(h:Heap)(l1 l2:Addr):Heap:=(G3 b1 b2 h l1 l2).push {cls:=.type "tuple",data:=.seq #[.none,.none]}
abbrev G5(b1 b2:Bool)(h:Heap)(l1 l2:Addr):Heap:=(G4 b1 b2 h l1 l2).push {cls:=.type "zip",data:=.fields #[.none,.bool false,.bool false,.ref (G2 b1 b2 h l1 l2).objs.size,.ref (G3 b1 b2 h l1 l2).objs.size]}
theorem z5j (b1 b2:Bool) (l1 l2:Addr) (xs ys:Array Value): Meets (Builtin.«zip.__new__» ⟨[.type "zip",.ref l1,.ref l2],[]⟩) (λ_ R s=>Sco b1 s.heap l1 xs/\Sco b2 s.heap l2 ys/\R (.ok (.ret (.ref (G4 b1 b2 s.heap l1 l2).objs.size))) {s with heap:=G5 b1 b2 s.heap l1 l2}):= .of_wp λprog w A R s h=>by
  obtain⟨hp,g,d,tk,os⟩:=s;obtain⟨c1,c2,h⟩:=h;have hsub:=sub_zip;have q1:Sco b1 (Shared.heap ⟨hp,g,d,tk,os⟩) l1 xs:=c1;have q2:Sco b2 (Shared.heap ⟨hp.push (itO b1 l1),g,d,tk,os⟩) l2 ys:=c2.to λo e=>_d _ e;wp_walk using z4r q1,z4r q2;exact⟨_,rfl,h⟩
section
variable {P:Program}{w:World}{A:Around}{E:Value->Shared->Prop}{s:Shared}
theorem z6n {b1 b2:Bool} {l1 l2:Addr} {xs ys:Array Value} {Q:Value->Shared->Prop} (c1:Sco b1 s.heap l1 xs) (c2:Sco b2 s.heap l2 ys) (h:∀h',IsZip h' (s.heap.objs.size+4) (s.heap.objs.size+2) (s.heap.objs.size+3) .none->IsPair h' (s.heap.objs.size+2) (.ref s.heap.objs.size) (.ref (s.heap.objs.size+1))-> IsPair h' (s.heap.objs.size+3) .none .none->Sit b1 h' s.heap.objs.size l1 0->Sit b2 h' (s.heap.objs.size+1) l2 0->(∀c o,s.heap.get? c=some o->h'.get? c=some o)->Q (.ref (s.heap.objs.size+4)) {s with heap:=h'}): wpAny (model P w) A (call (.type "zip") [.ref l1,.ref l2]) Q E s:=by
 refine callType_new F.called_zip (by decide) (F.typeCall_zip_2 _ _) (F.newCall_zip_2 _ _) (λobj=>F.args_object_init_3 obj _ _) F.entry_zip_new (z5j b1 b2 l1 l2 xs ys) ⟨c1,c2,?_⟩;have z1:(G1 b1 s.heap l1).objs.size=s.heap.objs.size+1:=_ab ..;have z2:(G2 b1 b2 s.heap l1 l2).objs.size=s.heap.objs.size+2:=by rw[_ab,z1]
 have z3:(G3 b1 b2 s.heap l1 l2).objs.size=s.heap.objs.size+3:=by rw[_ab,z2]
 have z4:(G4 b1 b2 s.heap l1 l2).objs.size=s.heap.objs.size+4:=by rw[_ab,z3]
 have up:∀{h:Heap} {o:Obj} {c:Addr} {u:Obj},h.get? c=some u->(h.push o).get? c=some u:=λe=>_d _ e;have g5:(G5 b1 b2 s.heap l1 l2).get? (G4 b1 b2 s.heap l1 l2).objs.size=some _:=_m _ rfl;have g4:(G5 b1 b2 s.heap l1 l2).get? (G3 b1 b2 s.heap l1 l2).objs.size=some _:=up (_m _ rfl);have g3:(G5 b1 b2 s.heap l1 l2).get? (G2 b1 b2 s.heap l1 l2).objs.size=some _:=up (up (_m _ rfl));have g2:(G5 b1 b2 s.heap l1 l2).get? (G1 b1 s.heap l1).objs.size=some (itO b2 l2):=up (up (up (_m _ (z0A b2 l2))));have g1:(G5 b1 b2 s.heap l1 l2).get? s.heap.objs.size=some (itO b1 l1):=up (up (up (up (_m _ (z0A b1 l1)))));show _/\_;rw[z2,z3,z4]at g5;rw[z1,z2]at g3;rw[z3]at g4;rw[z1]at g2;rw[z4];exact⟨⟨_,g5,rfl⟩,h _ g5 g3 g4 (z2U g1) (z2U g2) λc o e=>up (up (up (up (up e))))⟩
end
end Zz
namespace L2
open Zz
def Sq(b:Bool)(K:W.Frag)(H:Hp)(a:Addr)(xs:List V):Prop:=match b with
 | true=>SqL K H a xs | false=>SqT K H a xs
section
variable {X:Cx}{pins:List (Addr×Obj)}{O:St}{H:Hp}{s:Shared}{h':Heap}
theorem Inv.sq{b:Bool}{a:Addr}{xs:List V}(I:Inv X pins O H s)(h:Sq b X.K H a xs):∃its:List Value,yt xs its/\Sco b s.heap a its.toArray:=by cases b with
 | true=>obtain⟨its,r,p,_⟩:=I.list h;exact⟨its,r,p.isList⟩ | false=>obtain⟨its,r,p,_⟩:=I.tuple h;exact⟨its,r,p⟩
theorem Inv.sq_inj{b:Bool}{a:Addr}{xs ys:List V}(I:Inv X pins O H s)(h:Sq b X.K H a xs)(h':Sq b X.K H a ys):xs=ys:=by cases b with
 | true=>exact I.list_inj h h' | false=>exact I.tuple_inj h h'
theorem Inv.turnedL {t':Nat} {ch:List Addr} (I:Inv X pins O H s) (k:∀b o,b∉ch->s.heap.get? b=some o->h'.get? b=some o) (f:∀b∈ch,z2G X pins H b):Inv X pins O H {s with heap:=h',toks:=t'}:=by
 have nit:∀b u,H b=some u->b∉ch:=λb u e z=>by rw[(f b z).1]at e;cases e
 refine I.step (g':=s.gens) (d':=s.drawn) (ch:=ch) (λb hb=>⟨(f b hb).2.2.2.1,(f b hb).2.1,(f b hb).2.2.2.2.1,(f b hb).2.2.2.2.2⟩) (λb o _ _ hc e _=>k b o hc e) (λb o _ _ hc e _=>⟨o.slots,k b o hc e⟩) (λ_ _ _ _ n=>n) (λb o hc e=>⟨o,k b o hc e⟩) (λ_ _ e=>e) (λ_ _ _ e=>e) (λb ps e=>⟨#[],by rw[e];simp⟩) (λm hm=>?_) (λb u e=>?_) I.bare
 ·obtain⟨o,es,ep,ho,r⟩:=hm;exact⟨o,es,ep,k _ o (λz=>(f _ z).2.1 rfl) ho,r⟩
 ·refine (I.hok b u e).stay (λc v hc q=>k c v ?_ q) (λ_ q=>q) λ_ _ q=>q;rcases hc with z | z;·rw[z];exact nit b u e
  ·exact nit c _ z
end
def Itz(K:W.Frag)(b1 b2:Bool)(l1 l2:Addr):It:= ⟨λi H=>∃xs ys x y,Sq b1 K H l1 xs/\Sq b2 K H l2 ys/\xs[i]? = some x/\ys[i]? = some y, λi H v H'=>∃T x y,H T=none/\v=.ref T/\H'=upd H T (.tup [x,y])/\(∀xs,Sq b1 K H l1 xs->xs[i]? = some x)/\∀ys,Sq b2 K H l2 ys->ys[i]? = some y, λi H=>∃xs ys,Sq b1 K H l1 xs/\Sq b2 K H l2 ys/\(xs.length<=i\/ys.length<=i)⟩
theorem z6j {P:Program} {w:World} {K:W.Frag} {elts:List Expr} {kt:Nat} {tp:Pos} {b1 b2:Bool} {z TI TO i1 i2 l1 l2:Addr} (D:ZipApart z TI TO i1 i2 l1 l2): z7G P w K (.Tuple elts kt tp) (Itz K b1 b2 l1 l2) [z,TI,TO,i1,i2] z (λi h=>IsZip h z TI TO .none/\IsPair h TI (.ref i1) (.ref i2)/\(∃a b,IsPair h TO a b)/\Sit b1 h i1 l1 i/\Sit b2 h i2 l2 i) where
 mem:=by simp
 obj:=λi h ⟨hz,hTI,⟨a,b,hTO⟩,h1,h2⟩ c hc=>by
  have hc':c=z\/c=TI\/c=TO\/c=i1\/c=i2:=by simpa using hc
  rcases hc' with rfl | rfl | rfl | rfl | rfl;·exact⟨_,hz,λv e=>by simp at e⟩
  ·exact⟨_,hTI,λv e=>by simp at e⟩
  ·exact⟨_,hTO,λv e=>by simp at e⟩
  ·exact h1.ob
  ·exact h2.ob
 keep:=λi h h' ⟨hz,hTI,⟨a,b,hTO⟩,h1,h2⟩ k=>⟨k z (by simp) _ hz,k TI (by simp) _ hTI,⟨a,b,k TO (by simp) _ hTO⟩,h1.to λo e=>k i1 (by simp) o e,h2.to λo e=>k i2 (by simp) o e⟩;item:=by
  intro X hP hw hK hc i pins s O H E I hf ⟨hz,hTI,⟨a,b,hTO⟩,h1,h2⟩ ⟨xs,ys,x,y,qx,qy,ex,ey⟩;subst hP hw hK;obtain⟨ix,rx,cx⟩:=I.sq qx;obtain⟨iy,ry,cy⟩:=I.sq qy;obtain⟨u,hu,ru⟩:=rx.get ex;obtain⟨v,hv,rv⟩:=ry.get ey;refine z7v D hz hTI hTO h1 h2 cx cy (x:=u) (y:=v) (by simpa using hu) (by simpa using hv) λg a1 a2 a3 a4 a5 a6 hk=>⟨_,rfl,?_⟩;have kk:∀c o,c∉[z,TO,i1,i2]->s.heap.get? c=some o->g.get? c=some o:=λc o n e=>hk c o (λt=>n (by simp[t])) (λt=>n (by simp[t])) (λt=>n (by simp[t])) (λt=>n (by simp[t])) e;have sub:∀c∈[z,TO,i1,i2],c∈[z,TI,TO,i1,i2]:=λc hc=>by
   have:c=z\/c=TO\/c=i1\/c=i2:=by simpa using hc
   rcases this with rfl | rfl | rfl | rfl<;>simp
  have I1:Inv X pins O H {s with heap:=g}:=I.turnedL (t':=s.toks) kk λc hc=>hf c (sub c hc);refine wpAny_letOwnedTupleGo_zip a1 λg2 z2 s2=>?_;obtain⟨f0,f1,f2,f3,f4,f5⟩:=hf z (by simp);have I2:Inv X pins O H {s with heap:=g2}:=I1.turned (t':=s.toks) (λc o n e=>zp s2 n e) f0 f1 f3 f4 f5;have new:z2G X pins H s.heap.objs.size:=I.fpOk (_i _) (I.hok.fresh (_i _));have ne:∀{c:Addr} {o:Obj},s.heap.get? c=some o->c≠s.heap.objs.size:=λe=>_u (_h e);have p2:IsPair g2 s.heap.objs.size u v:=zp s2 (ne hz).symm a5;refine⟨.ref s.heap.objs.size,upd H s.heap.objs.size (.tup [x,y]),I2.track new ⟨?_,[u,v],.cons ru (.cons rv .nil),⟨_,p2,rfl,rfl,_,rfl⟩⟩,rfl,⟨_,x,y,new.1,rfl,rfl,λzs qz=>?_,λzs qz=>?_⟩,⟨z2,?_,⟨_,_,zp s2 D.TOz a2⟩,a3.to λo e=>zp s2 D.i1z e,a4.to λo e=>zp s2 D.i2z e⟩,λc hc=>?_⟩;·show 2<=sizeLine;decide
  ·rw[I.sq_inj qz qx];exact ex
  ·rw[I.sq_inj qz qy];exact ey
  ·exact zp s2 D.TIz (hk TI _ D.TIz D.TITO D.TIi1 D.TIi2 hTI)
  ·have hc':c=z\/c=TI\/c=TO\/c=i1\/c=i2:=by simpa using hc
   have:c≠s.heap.objs.size:=by
    rcases hc' with rfl | rfl | rfl | rfl | rfl;·exact ne hz
    ·exact ne hTI
    ·exact ne hTO
    ·exact _u h1.lt
    ·exact _u h2.lt
   rw[zu this];exact (hf c hc).1
 done:=by
  intro X hP hw hK hc i pins s O H E I hf ⟨hz,hTI,⟨a,b,hTO⟩,h1,h2⟩ ⟨xs,ys,qx,qy,hl⟩;subst hP hw hK;obtain⟨ix,rx,cx⟩:=I.sq qx;obtain⟨iy,ry,cy⟩:=I.sq qy;have lx:=rx.length;have ly:=ry.length;refine zap (I.ok.hd hc) D hz hTI hTO h1 h2 cx cy ?_ λg hk=>⟨rfl,?_⟩
  ·rcases hl with hl | hl;·exact .inl (by simp;omega)
   ·exact .inr (by simp;omega)
  ·exact I.turnedL (t':=s.toks) (ch:=[z,TO,i1,i2]) (λc o n e=>hk c o (λt=>n (by simp[t])) (λt=>n (by simp[t])) (λt=>n (by simp[t])) (λt=>n (by simp[t])) e) λc hc=>hf c (by
    have:c=z\/c=TO\/c=i1\/c=i2:=by simpa using hc
    rcases this with rfl | rfl | rfl | rfl<;>simp)
 self:=λ_ _ _ _ _ st h=>wpAny_pyIter_zip st.1 h
theorem zaG{X:Cx}{elts:List Expr}{kt:Nat}{tp:Pos}{a b:Expr}{ta:TA}{p pos:Pos}(hg:Gl X "zip")(hm:X.mg "zip"=none)(ha:PA X [a,b] ta)(hs:starEach [a,b] X.env=(false,eval a X.env)::starEach [b] X.env:=by rfl)(hpl:(backTo pos (starEach [b] X.env)).any (·.1)=false:=by rfl): PI X (.Tuple elts kt tp) (.Call (.Name "zip" p) [a,b] [] pos) (λO H R=>ta O H λvs H1=>∃l1 l2 b1 b2,vs=[.ref l1,.ref l2]/\(∃xs,Sq b1 X.K H1 l1 xs)/\(∃ys,Sq b2 X.K H1 l2 ys)/\R (Itz X.K b1 b2 l1 l2) H1):=by
 intro pins s O H R I h;refine _aw (z1P I hg hm (u:=.type "zip") (by first | exact PySem.boot_zip | rfl | decide +kernel) ?_ (by decide) (by decide));refine _aA (thn (ha pos pins s O H _ I h) λus s1 ⟨vs,H1,I1,r1,q1⟩=>?_) hs hpl;obtain⟨l1,l2,b1,b2,rfl,⟨xs,qx⟩,⟨ys,qy⟩,q⟩:=q1;cases r1 with | cons r1 r2=> cases r2 with | cons r2 r3=>
   cases r3;cases r1;cases r2;obtain⟨ix,rx,cx⟩:=I1.sq qx;obtain⟨iy,ry,cy⟩:=I1.sq qy;have lt1:l1<s1.heap.objs.size:=by cases b1 with
    | true=>obtain⟨o,e,_⟩:=cx;exact _h e | false=>obtain⟨o,e,_⟩:=cx;exact _h e
   have lt2:l2<s1.heap.objs.size:=by cases b2 with
    | true=>obtain⟨o,e,_⟩:=cy;exact _h e | false=>obtain⟨o,e,_⟩:=cy;exact _h e
   have D:ZipApart (s1.heap.objs.size+4) (s1.heap.objs.size+2) (s1.heap.objs.size+3) s1.heap.objs.size (s1.heap.objs.size+1) l1 l2:=by
    have e1:∀k:Nat,l1≠s1.heap.objs.size+k:=λk=>_u (_e lt1 (_bB _ _));have e2:∀k:Nat,l2≠s1.heap.objs.size+k:=λk=>_u (_e lt2 (_bB _ _));have nk:∀(m j k:Nat),j≠k->m+j≠m+k:=λm j k h z=>h (Nat.add_left_cancel z);exact⟨nk _ 2 4 (by decide),nk _ 3 4 (by decide),nk _ 0 4 (by decide),nk _ 1 4 (by decide),nk _ 2 3 (by decide),nk _ 2 0 (by decide),nk _ 2 1 (by decide),nk _ 3 0 (by decide),nk _ 3 1 (by decide),nk _ 0 1 (by decide),e1 4,e1 3,e1 0,e1 1,e2 4,e2 3,e2 0,e2 1⟩
   refine z6n cx cy λg hz hTI hTO h1 h2 hk=>?_;refine wpAny_pyIter_zip hz ?_;refine⟨_,_,_,_,H1,rfl,I1.kept (t':=s1.toks) hk,z6j D,⟨hz,hTI,⟨_,_,hTO⟩,h1,h2⟩,λc hc=>?_,q⟩;have hc':s1.heap.objs.size<=c:=by
    have:c=s1.heap.objs.size+4\/c=s1.heap.objs.size+2\/c=s1.heap.objs.size+3\/c=s1.heap.objs.size\/c=s1.heap.objs.size+1:=by simpa using hc
    rcases this with rfl | rfl | rfl | rfl | rfl<;>first | exact _i _ | exact _bB _ _
   exact I1.fpOk hc' (I1.hok.fresh hc')
end L2
namespace Zz
section
variable {P:Program}{w:World}{A:Around}{E:Value->Shared->Prop}{s:Shared}
theorem z2H {b : Bool} {l : Addr} {its : Array Value} {Q : Value → Shared → Prop} (hh : A.handled = none) (h : Sco b s.heap l its) (k : ∀s2 : Shared, s2 = { s with heap := s.heap.push (itO b l) } → ∀St : Nat → Heap → Prop, Walks P w A s.heap.objs.size [s.heap.objs.size, l] [s.heap.objs.size] its.size (λi v => its[i]? = some v) St → St 0 s2.heap → (∀c ∈ [s.heap.objs.size, l], c < s2.heap.objs.size) → (∀h' : Heap, (∀c o, c ∉ [s.heap.objs.size] → s2.heap.get? c = some o → h'.get? c = some o) → ∀c o, s.heap.get? c = some o → h'.get? c = some o) → Q (.ref s.heap.objs.size) s2) : wpAny (model P w) A (pyIter (.ref l)) Q E s := by
  have lt : l < s.heap.objs.size := by cases b with
    | true => obtain⟨o, e, _⟩ := h; exact _h e | false => obtain⟨o, e, _⟩ := h; exact _h e
  have ne : l ≠ s.heap.objs.size := _u lt;have bd : ∀c ∈ [s.heap.objs.size, l], c < (s.heap.push (itO b l)).objs.size := λc hc => by
    have : c = s.heap.objs.size ∨ c = l := by simpa using hc
    rw[_ab];rcases this with rfl | rfl;· exact _aZ _
    · exact _br lt
  have old : ∀h' : Heap, (∀c o, c ∉ [s.heap.objs.size] → (s.heap.push (itO b l)).get? c = some o → h'.get? c = some o) → ∀c o, s.heap.get? c = some o → h'.get? c = some o := λh' hk c o e =>
    hk c o (fun z => by have : c = s.heap.objs.size := by simpa using z
                        exact absurd (this ▸ _h e) (_V _)) (_d _ e);refine z4r h ?_;have g : (s.heap.push (itO b l)).get? s.heap.objs.size = some (itO b l) := _m _ (z0A b l);cases b with
  | true => exact k _ rfl _ (Walks.list hh _ l ne its) ⟨z2U (b := true) g, Sco.to (b := true) h λo e => _d _ e⟩ bd old | false => exact k _ rfl _ (Walks.tuple hh _ l ne its) ⟨z2U (b := false) g, Sco.to (b := false) h λo e => _d _ e⟩ bd old
end
end Zz
namespace L2
open Zz
def maxL:List Int->Int
 | []=>0 | x::xs=>xs.foldl max x
def minL:List Int->Int
 | []=>0 | x::xs=>xs.foldl min x
theorem wo:∀(xs:List Int)(x:Int),x<=xs.foldl max x/\(∀y∈xs,y<=xs.foldl max x)/\(xs.foldl max x=x\/xs.foldl max x∈xs)
 | [],x=>⟨Int.le_refl _,by simp,.inl rfl⟩ | y::ys,x=>by
  obtain⟨h1,h2,h3⟩:=wo ys (max x y);refine⟨by simp only[_ad];omega,λz hz=>?_,?_⟩
  ·simp only[_ad];rcases _l.mp hz with rfl | hz;·omega
   ·exact h2 z hz
  ·simp only[_ad];rcases h3 with h3 | h3
   ·rw[h3];rcases Int.le_total x y with h | h;·exact .inr (by rw[Int.max_eq_right h];simp)
    ·exact .inl (Int.max_eq_left h)
   ·exact .inr (_n _ h3)
theorem wu:∀(xs:List Int)(x:Int),xs.foldl min x<=x/\(∀y∈xs,xs.foldl min x<=y)/\(xs.foldl min x=x\/xs.foldl min x∈xs)
 | [],x=>⟨Int.le_refl _,by simp,.inl rfl⟩ | y::ys,x=>by
  obtain⟨h1,h2,h3⟩:=wu ys (min x y);refine⟨by simp only[_ad];omega,λz hz=>?_,?_⟩
  ·simp only[_ad];rcases _l.mp hz with rfl | hz;·omega
   ·exact h2 z hz
  ·simp only[_ad];rcases h3 with h3 | h3
   ·rw[h3];rcases Int.le_total x y with h | h;·exact .inl (Int.min_eq_left h)
    ·exact .inr (by rw[Int.min_eq_right h];simp)
   ·exact .inr (_n _ h3)
theorem maxL_ge{xs:List Int}:∀y∈xs,y<=maxL xs:=by cases xs with
 | nil=>simp | cons x xs=>intro y hy;rcases _l.mp hy with rfl | hy;exact (wo xs y).1;exact (wo xs x).2.1 y hy
theorem maxL_mem{xs:List Int}(h:xs≠[]):maxL xs∈xs:=by cases xs with
 | nil=>exact absurd rfl h | cons x xs=>rcases (wo xs x).2.2 with e | e;exact (show xs.foldl max x∈x::xs by rw[e];simp);exact _n _ e
theorem minL_le{xs:List Int}:∀y∈xs,minL xs<=y:=by cases xs with
 | nil=>simp | cons x xs=>intro y hy;rcases _l.mp hy with rfl | hy;exact (wu xs y).1;exact (wu xs x).2.1 y hy
theorem minL_mem{xs:List Int}(h:xs≠[]):minL xs∈xs:=by cases xs with
 | nil=>exact absurd rfl h | cons x xs=>rcases (wu xs x).2.2 with e | e;exact (show xs.foldl min x∈x::xs by rw[e];simp);exact _n _ e
section
variable {X:Cx}
theorem z0M {ns:List Int} {its:List Value} (r:yt (ns.map V.int) its) {i:Nat} {v:Value} (e:its.toArray[i]? = some v):∃t,v=.int (ns.getD i 0) t/\i<ns.length:=by
 have e':its[i]? = some v:=by simpa using e
 have hl:=r.length;have hi:i<ns.length:=by
  have:=(_b.mp e').1;simp at hl;omega
 obtain⟨u,hu,ru⟩:=r.get (i:=i) (x:=V.int ns[i]) (by simp[hi]);rw[e']at hu;cases hu;obtain⟨t,rfl⟩:=ru;exact⟨t,by simp[List.getD,hi],hi⟩
theorem getD_in{ns:List Int}{i:Nat}(h:i<ns.length):ns.getD i 0∈ns:=by
 rw[List.getD,_t h];exact _ai _
theorem z5e (hc:X.calm=true):yB X (.builtin "max") (λxs H Q=>∃b p ns,xs=[.ref p]/\Sq b X.K H p (ns.map V.int)/\ns≠[]/\Q (.int (maxL ns)) H):=by
 intro pins s O H xs us Q I r h;obtain⟨b,p,ns,rfl,hq,hne,q⟩:=h;obtain⟨u,rfl,ru⟩:=vals1 r;cases ru;obtain⟨its,rv,co⟩:=I.sq hq;have hl:its.length=ns.length:=by have:=rv.length;simp at this;omega
 have hn:0<ns.length:=_bb.mpr hne;refine call_max_walk (z2H (I.ok.hd hc) co λs2 e2 St W st bd old=>?_);subst e2;refine⟨_,_,_,_,_,_,_,rfl,W,st,bd,by simpa[hl] using hn,CmpOf.ints_gt (λi=>ns.getD i 0) (λi v e=>let ⟨t,e1,_⟩:=z0M rv e;⟨t,e1⟩),λv h' tk e hk=>?_⟩;obtain⟨t,e1,lt⟩:=z0M rv e;obtain⟨h1,h2⟩:=argBest_gt (λi=>ns.getD i 0) (its.toArray.size-1);have em:ns.getD (argBest (λi j=>decide (ns.getD i 0 > ns.getD j 0)) (its.toArray.size-1)) 0=maxL ns:=by
  refine Int.le_antisymm (maxL_ge _ ?_) ?_;·exact getD_in lt
  ·obtain⟨j,hj,ej⟩:=_ag.mp (maxL_mem hne);have:=h2 j (by simp[hl];omega);simp only[List.getD,_t hj,_bC,ej]at this;simpa[List.getD] using this
 rw[e1,em];exact⟨.int (maxL ns),H,I.kept (t':=tk) (old h' hk),⟨t,rfl⟩,q⟩
theorem z4l (hc:X.calm=true):yB X (.builtin "min") (λxs H Q=>∃b p ns,xs=[.ref p]/\Sq b X.K H p (ns.map V.int)/\ns≠[]/\Q (.int (minL ns)) H):=by
 intro pins s O H xs us Q I r h;obtain⟨b,p,ns,rfl,hq,hne,q⟩:=h;obtain⟨u,rfl,ru⟩:=vals1 r;cases ru;obtain⟨its,rv,co⟩:=I.sq hq;have hl:its.length=ns.length:=by have:=rv.length;simp at this;omega
 have hn:0<ns.length:=_bb.mpr hne;refine call_min_walk (z2H (I.ok.hd hc) co λs2 e2 St W st bd old=>?_);subst e2;refine⟨_,_,_,_,_,_,_,rfl,W,st,bd,by simpa[hl] using hn,CmpOf.ints_lt (λi=>ns.getD i 0) (λi v e=>let ⟨t,e1,_⟩:=z0M rv e;⟨t,e1⟩),λv h' tk e hk=>?_⟩;obtain⟨t,e1,lt⟩:=z0M rv e;obtain⟨h1,h2⟩:=argBest_lt (λi=>ns.getD i 0) (its.toArray.size-1);have em:ns.getD (argBest (λi j=>decide (ns.getD i 0<ns.getD j 0)) (its.toArray.size-1)) 0=minL ns:=by
  refine Int.le_antisymm ?_ (minL_le _ ?_)
  ·obtain⟨j,hj,ej⟩:=_ag.mp (minL_mem hne);have:=h2 j (by simp[hl];omega);simp only[List.getD,_t hj,_bC,ej]at this;simpa[List.getD] using this
  ·exact getD_in lt
 rw[e1,em];exact⟨.int (minL ns),H,I.kept (t':=tk) (old h' hk),⟨t,rfl⟩,q⟩
theorem all_range{bs:List Bool}:(List.range bs.length).all (λi=>bs.getD i false)=bs.all id:=by
 rw[_aK];simp only[_z,List.mem_range,id];constructor
 ·intro h x hx;obtain⟨j,hj,ej⟩:=_ag.mp hx;have:=h j hj;simpa[List.getD,hj,ej] using this
 ·intro h i hi;simp only[List.getD,_t hi,_bC];exact h _ (_ai _)
theorem z4H (hc:X.calm=true):yB X (.builtin "all") (λxs H Q=>∃(b:Bool) (p:Addr) (bs:List Bool),xs=[.ref p]/\Sq b X.K H p (bs.map V.bl)/\Q (.bl (bs.all id)) H):=by
 intro pins s O H xs us Q I r h;obtain⟨b,p,bs,rfl,hq,q⟩:=h;obtain⟨u,rfl,ru⟩:=vals1 r;cases ru;obtain⟨its,rv,co⟩:=I.sq hq;have hl:its.length=bs.length:=by have:=rv.length;simp at this;omega
 refine call_all_walk (z2H (I.ok.hd hc) co λs2 e2 St W st bd old=>?_);subst e2;refine⟨_,_,_,_,_,_,λi=>bs.getD i false,rfl,W,st,λi v s3 Q3 E3 e q3=>?_,λh' tk hk=>?_⟩
 ·have e':its[i]? = some v:=by simpa using e
  have hi:i<bs.length:=by have:=(_b.mp e').1;omega
  obtain⟨u,hu,ru⟩:=rv.get (i:=i) (x:=V.bl bs[i]) (by simp[hi]);rw[e']at hu;cases hu;cases ru;have:bs.getD i false=bs[i]:=by simp[List.getD,hi]
  have q3:Q3 (bs.getD i false) s3:=q3;rw[this]at q3;exact _aa q3
 ·have ez:its.toArray.size=bs.length:=by simp[hl]
  rw[ez,all_range];exact⟨.bl (bs.all id),H,I.kept (t':=tk) (old h' hk),rfl,q⟩
end
end L2
namespace L2
theorem z2s{X:Cx}:yB X (.builtin "isinstance") (λxs H Q=>∃x t T b,xs=[x,.ty T]/\z23 X.K H x t/\W.kitOne X.K t (.type T)=some b/\Q (.bl b) H):=by
 intro pins s O H xs us Q I r h;obtain⟨x,t,T,b,rfl,ht,hk,q⟩:=h;obtain⟨u,v,rfl,ru,rv⟩:=vals2 r;cases rv;exact z4x I ru ht hk λtk=>⟨.bl b,H,I.tok _,rfl,q⟩
end L2
namespace Dd
open L2
def tyD:D->Option String
 | .non=>some "NoneType" | .bl _=>some "bool" | .int _=>some "int" | .str _=>some "str" | .tup _=>some "tuple" | .lst _=>some "list" | .loc _=>some "list" | .dct=>some "dict" | _=>none
def isT(T t:String):Bool:=t==T||(T=="int"&&t=="bool")
def gIs(T:String):D->Sto->R D:=λd s=>match tyD d with | some t=>.ok (.bl (isT T t)) s | none=>.no
theorem z2C{K:W.Frag}{t:String}(h:t∈["NoneType","bool","int","str","tuple","list","dict"])(T:String)(hT:T∈["int","bool","str","tuple","list"]):W.kitOne K (.type t) (.type T)=some (isT T t):=by
 have hh:t="NoneType"\/t="bool"\/t="int"\/t="str"\/t="tuple"\/t="list"\/t="dict":=by simpa using h
 have hh':T="int"\/T="bool"\/T="str"\/T="tuple"\/T="list":=by simpa using hT
 rcases hh with rfl | rfl | rfl | rfl | rfl | rfl | rfl<;>rcases hh' with rfl | rfl | rfl | rfl | rfl<;>kernel_rfl
theorem z78{mg:Gm}{H:Hp}{Y:List Addr}{s:Sto}{d:D}{v:V}{t:String}(r:Rep mg H Y s)(dn:Den mg H Y d v)(e:tyD d=some t):z23 mg.K H v (.type t)/\t∈["NoneType","bool","int","str","tuple","list","dict"]:=by cases d with
 | non=>simp only[Den]at dn;subst dn;cases e;exact⟨.non,by simp⟩ | bl b=>cases wI dn;cases e;exact⟨.bl b,by simp⟩ | int b=>cases yp dn;cases e;exact⟨.int b,by simp⟩ | str b=>cases yb dn;cases e;exact⟨.str b,by simp⟩ | tup b=>
  cases e;simp only[Den]at dn;obtain⟨a,vs,rfl,h1,_⟩:=dn;exact⟨.tup h1,by simp⟩ | lst b=>
  cases e;simp only[Den]at dn;obtain⟨a,o,vs,rfl,h1,_⟩:=dn;exact⟨.frz h1,by simp⟩ | loc l=>
  cases e;simp only[Den]at dn;obtain⟨a,rfl,h1,vs,h2⟩:=dn;exact⟨.lst h2,by simp⟩ | dct=>
  cases e;simp only[Den]at dn;obtain⟨a,rfl,h1⟩:=dn;exact⟨.dK h1,by simp⟩ | _=>cases e
section
variable {X:Cx}{E:XK}{e a b c tg:Expr}{es:List Expr}{pos:Pos}{CX:CXT}
def eIs(T:String)(f:FE):FE:=λZ s=>(f Z s).bind λd s1=>gIs T d s1
theorem z1d{p p2:Pos}{T:String}{tn:Str}{f:FE}(hT:T∈["int","bool","str","tuple","list"])(hv:bootBuiltins tn=some (.type T))(hg:Gl X "isinstance")(hm:X.mg "isinstance"=none)(hg2:Gl X tn)(hm2:X.mg tn=none)(he:RE X E e f) (hn:tn≠"__name__":=by decide)(hd:(tn==("__debug__":Str))=false:=by decide) (hs:starEach [e,.Name tn p2] X.env=(false,eval e X.env)::starEach [.Name tn p2] X.env:=by rfl)(hpl:(backTo pos (starEach [.Name tn p2] X.env)).any (·.1)=false:=by rfl):RE X E (.Call (.Name "isinstance" p) [e,.Name tn p2] [] pos) (eIs T f):= zF (uP z2s hg hm (by decide +kernel) (yC he (yC (z0h hg2 hm2 hv (show yP (.ty T) (.type T) from rfl) hn hd) vH) hs) (by decide) (by decide) hs hpl) λO H Q ⟨Y,Z,s,r,en,h⟩=>by
  refine zX (k:=λZ d s1=>gIs T d s1) r en h _ λv H1 Y1 s1 d r1 en1 dn stp h1=>?_;unfold gIs at h1;split at h1
  ·rename_i t et;obtain⟨q1,q2⟩:=z78 r1 dn et;exact⟨v,.type t,T,isT T t,rfl,q1,z2C q2 T hT,okR.here (b:=V.bl (isT T t)) h1 r1 ye⟩
  ·exact h1.elim
def zdx:List D->Sto->R D
 | [.int i],s=>.ok (.int (if i<0 then -i else i)) s | _,_=>.no
def intsOf:List D->Option (List Int)
 | []=>some [] | .int i::r=>(intsOf r).map (i::·) | _=>none
def bools:List D->Option (List Bool)
 | []=>some [] | .bl i::r=>(bools r).map (i::·) | _=>none
theorem jp:∀{xs:List D}{ns:List Int},intsOf xs=some ns->xs=ns.map D.int
 | [],ns,h=>by simp[intsOf]at h;subst h;rfl | .int i::r,ns,h=>by
  simp only[intsOf,_x]at h;obtain⟨ms,h1,rfl⟩:=h;rw[jp h1];rfl
theorem qa(ns:List Int):intsOf (ns.map D.int)=some ns:=by induction ns with
 | nil=>rfl | cons n ns ih=>simp[intsOf,ih]
theorem jf:∀{xs:List D}{ns:List Bool},bools xs=some ns->xs=ns.map D.bl
 | [],ns,h=>by simp[bools]at h;subst h;rfl | .bl i::r,ns,h=>by
  simp only[bools,_x]at h;obtain⟨ms,h1,rfl⟩:=h;rw[jf h1];rfl
theorem z14(ns:List Bool):bools (ns.map D.bl)=some ns:=by induction ns with
 | nil=>rfl | cons n ns ih=>simp[bools,ih]
theorem jq{mg:Gm}{H:Hp}{Y:List Addr}:∀{ns:List Int}{vs:List V},zv mg H Y (ns.map D.int) vs->vs=ns.map V.int
 | [],vs,h=>by simpa[zv] using h | n::ns,vs,h=>by
  simp only[_N,zv]at h;obtain⟨v,r,rfl,h1,h2⟩:=h;cases yp h1;rw[jq h2];rfl
theorem jd{mg:Gm}{H:Hp}{Y:List Addr}:∀{ns:List Bool}{vs:List V},zv mg H Y (ns.map D.bl) vs->vs=ns.map V.bl
 | [],vs,h=>by simpa[zv] using h | n::ns,vs,h=>by
  simp only[_N,zv]at h;obtain⟨v,r,rfl,h1,h2⟩:=h;cases wI h1;rw[jd h2];rfl
def uO:List D->Sto->R D
 | [d],s=>match (zU s d).bind intsOf with | some (n::ns)=>.ok (.int (maxL (n::ns))) s | _=>.no
 | _,_=>.no
def z27:List D->Sto->R D
 | [d],s=>match (zU s d).bind intsOf with | some (n::ns)=>.ok (.int (minL (n::ns))) s | _=>.no
 | _,_=>.no
def z44:List D->Sto->R D
 | [d],s=>match (zU s d).bind bools with | some ns=>.ok (.bl (ns.all id)) s | none=>.no
 | _,_=>.no
theorem z4A{K:W.Frag}{H:Hp}{a:Addr}{vs:List V}(h:SqL K H a vs\/SqT K H a vs):∃b,Sq b K H a vs:=h.elim (λh=>⟨true,h⟩) λh=>⟨false,h⟩
theorem z32(hc:X.calm=true):∃r,yB X (.builtin "max") r/\uN X E r uO:=⟨_,z5e hc,λH Y s ds vs Q r hd h=>by
 unfold uO at h;split at h
 ·rename_i d;split at h
  ·rename_i n ns e;obtain⟨xs,e1,e2⟩:=_av.mp e;have:=jp e2;subst this;obtain⟨v,rfl,dn⟩:=qJ hd;obtain⟨a,ws,rfl,q1,q2⟩:=vo (K:=X.K) r e1 dn;cases jq q2;obtain⟨b,q⟩:=z4A q1;exact⟨b,a,n::ns,rfl,q,by simp,h.here r yd⟩
  ·exact h.elim
 ·exact h.elim⟩
theorem z9h(hc:X.calm=true):∃r,yB X (.builtin "min") r/\uN X E r z27:=⟨_,z4l hc,λH Y s ds vs Q r hd h=>by
 unfold z27 at h;split at h
 ·rename_i d;split at h
  ·rename_i n ns e;obtain⟨xs,e1,e2⟩:=_av.mp e;have:=jp e2;subst this;obtain⟨v,rfl,dn⟩:=qJ hd;obtain⟨a,ws,rfl,q1,q2⟩:=vo (K:=X.K) r e1 dn;cases jq q2;obtain⟨b,q⟩:=z4A q1;exact⟨b,a,n::ns,rfl,q,by simp,h.here r yd⟩
  ·exact h.elim
 ·exact h.elim⟩
theorem z7W(hc:X.calm=true):∃r,yB X (.builtin "all") r/\uN X E r z44:=⟨_,z4H hc,λH Y s ds vs Q r hd h=>by
 unfold z44 at h;split at h
 ·rename_i d;split at h
  ·rename_i ns e;obtain⟨xs,e1,e2⟩:=_av.mp e;have:=jf e2;subst this;obtain⟨v,rfl,dn⟩:=qJ hd;obtain⟨a,ws,rfl,q1,q2⟩:=vo (K:=X.K) r e1 dn;cases jd q2;obtain⟨b,q⟩:=z4A q1;exact⟨b,a,ns,rfl,q,h.here r ye⟩
  ·exact h.elim
 ·exact h.elim⟩
def z3b:List D->List D->List D
 | x::xs,y::ys=>.tup [x,y]::z3b xs ys | _,_=>[]
theorem jS:∀(xs ys:List D),(z3b xs ys).length=min xs.length ys.length
 | [],ys=>by simp[z3b] | x::xs,[]=>by simp[z3b] | x::xs,y::ys=>by simp only[z3b,_c,jS xs ys];omega
theorem z4c:∀{xs ys:List D}{i:Nat}{d:D},(z3b xs ys)[i]? = some d->∃x y,xs[i]? = some x/\ys[i]? = some y/\d=.tup [x,y]
 | [],ys,i,d,h=>by simp[z3b]at h | x::xs,[],i,d,h=>by simp[z3b]at h | x::xs,y::ys,0,d,h=>by simp[z3b]at h;exact⟨x,y,by simp,by simp,h.symm⟩ | x::xs,y::ys,i+1,d,h=>by
  simp only[z3b,_O]at h;obtain⟨a,b,h1,h2,h3⟩:=z4c h;exact⟨a,b,by simpa using h1,by simpa using h2,h3⟩
def z8a(s:Sto):D->Option (List D×List (Nat×List D))
 | .tup xs=>some (xs,[]) | .lst xs=>some (xs,[]) | .loc l=>(s[l]?).map λxs=>(xs,[(l,xs)]) | _=>none
theorem z4G{mg:Gm}{H:Hp}{Y:List Addr}{s:Sto}{d:D}{xs:List D}{g:List (Nat×List D)}{v:V}(r:Rep mg H Y s)(h:z8a s d=some (xs,g))(dn:Den mg H Y d v):okG g [] s/\∃(b:Bool)(a:Addr),v=.ref a/\ ∀H2 Y2 s2,yQ mg H Y H2 Y2 s2->okG g [] s2->∃ws,Sq b mg.K H2 a ws/\zv mg H2 Y2 xs ws:=by cases d with
 | tup ys=>
  cases h;obtain⟨a,vs,rfl,q1,q2⟩:=uR (K:=mg.K) dn;refine⟨(by intro p hp;simp at hp),false,a,rfl,λH2 Y2 s2 stp _=>?_⟩;obtain⟨a',ws,e,q3,q4⟩:=uR (K:=mg.K) (dn.mono stp);cases e;exact⟨ws,q3,q4⟩ | lst ys=>
  cases h;obtain⟨a,vs,rfl,q1,q2⟩:=zJ (d:=.lst xs) r rfl dn;refine⟨(by intro p hp;simp at hp),true,a,rfl,λH2 Y2 s2 stp _=>?_⟩;obtain⟨a',ws,e,q3,q4⟩:=zJ (d:=.lst xs) stp.rep rfl (dn.mono stp);cases e;exact⟨ws,.inl q3,q4⟩ | loc l=>
  simp only[z8a,_x]at h;obtain⟨ys,ey,e2⟩:=h;cases e2;obtain⟨a,vs,rfl,q1,q2⟩:=zJ (d:=.loc l) r ey dn;have og:okG [(l,xs)] [] s:=λp hp=>by
   have:p=(l,xs):=by simpa using hp
   subst this;exact ey
  refine⟨og,true,a,rfl,λH2 Y2 s2 stp hg=>?_⟩;obtain⟨a',ws,e,q3,q4⟩:=zJ (d:=.loc l) stp.rep (hg (l,xs) (by simp)) (dn.mono stp);cases e;exact⟨ws,.inl q3,q4⟩ | _=>cases h
def z8S(f:FA):FI:=λZ s=>(f Z s).bind λds s1=>match ds with
 | [x,y]=>match z8a s1 x,z8a s1 y with
  | some p,some q=>.ok (z3b p.1 q.1,p.2++q.2) s1 | _,_=>.no
 | _=>.no
theorem zba{p tp:Pos}{elts:List Expr}{kt:Nat}{f:FA}(hg:Gl X "zip")(hm:X.mg "zip"=none)(ha:RA X E [a,b] f)(hs:starEach [a,b] X.env=(false,eval a X.env)::starEach [b] X.env:=by rfl)(hpl:(backTo pos (starEach [b] X.env)).any (·.1)=false:=by rfl): RI X E (.Tuple elts kt tp) (.Call (.Name "zip" p) [a,b] [] pos) (z8S f):= z2P (zaG hg hm ha hs hpl) λO H Q ⟨Y,Z,s,r,en,h⟩=>by
  unfold z8S at h;refine⟨Y,Z,s,r,en,(okR.bind (Dn:=zv (gm X)) h).imp λvs H1 ⟨Y1,s1,ds,stp,dn,h1⟩=>?_⟩;split at h1
  ·rename_i x y;split at h1
   ·rename_i p q ex ey;obtain⟨xs,gx⟩:=p;obtain⟨ys,gy⟩:=q;obtain⟨v,v',rfl,d1,d2⟩:=z5u dn;obtain⟨og1,b1,a1,rfl,k1⟩:=z4G stp.rep ex d1;obtain⟨og2,b2,a2,rfl,k2⟩:=z4G stp.rep ey d2;obtain⟨w1,q1,_⟩:=k1 H1 Y1 s1 (.refl stp.rep) og1;obtain⟨w2,q2,_⟩:=k2 H1 Y1 s1 (.refl stp.rep) og2;refine⟨a1,a2,b1,b2,rfl,⟨w1,q1⟩,⟨w2,q2⟩,h1.here stp.rep λH2 Y2 s2 stp2 og i=>?_⟩;have h3:okG gx [] s2:=λp hp=>og p (_aq _ hp);have h4:okG gy [] s2:=λp hp=>og p (_D _ hp);refine⟨λd hd=>?_,λhl=>?_⟩
    ·obtain⟨x,y,e1,e2,rfl⟩:=z4c hd;obtain⟨w1,q1,n1⟩:=k1 H2 Y2 s2 stp2 h3;obtain⟨w2,q2,n2⟩:=k2 H2 Y2 s2 stp2 h4;obtain⟨u1,g1,m1⟩:=n1.get e1;obtain⟨u2,g2,m2⟩:=n2.get e2;refine⟨⟨w1,w2,u1,u2,q1,q2,g1,g2⟩,λz H' ⟨T,p,q,hT,ez,eH,hp,hq⟩=>?_⟩;subst ez eH;have e3:=hp w1 q1;have e4:=hq w2 q2;rw[g1]at e3;rw[g2]at e4;cases e3;cases e4;have st3:=yQ.lay (o:=.tup [u1,u2]) stp2.rep hT (by intro _ z;cases z);refine⟨Y2,st3,?_⟩;simp only[Den];exact⟨T,[u1,u2],rfl,ya,(zv.cons m1 (zv.one m2)).mono st3⟩
    ·obtain⟨w1,q1,n1⟩:=k1 H2 Y2 s2 stp2 h3;obtain⟨w2,q2,n2⟩:=k2 H2 Y2 s2 stp2 h4;refine⟨w1,w2,q1,q2,?_⟩;rw[n1.length,n2.length];simp only[jS]at hl;omega
   ·exact h1.elim
  ·exact h1.elim
end
def xY(mp:List (Option Nat))(Z:Ev):Ev:=mp.map λo=>match o with | some j=>(Z[j]?).getD none | none=>none
theorem wQ.inner{mg:Gm}{H:Hp}{Y:List Addr}{Z:Ev}{O:L2.St}{mp:List (Option Nat)}(en:wQ mg H Y Z O):wQ mg H Y (xY mp Z) (inner mp O):=by
 refine⟨by simp[xY,L2.inner],λi d h=>?_⟩;simp only[xY,_S,_x]at h;obtain⟨o,h1,h2⟩:=h;cases o with
 | none=>cases h2 | some j=>
  simp only at h2;have h3:Z[j]? = some (some d):=by cases e:Z[j]? with
   | none=>rw[e]at h2;cases h2 | some x=>rw[e]at h2;simp at h2;rw[h2]
  obtain⟨v,h4,h5⟩:=en.at_ j d h3;exact⟨v,by simp[L2.inner,h1,h4],h5⟩
open Classical in
def vX(g:List (Nat×List D))(all:List D)(body:D->Sto->R (Option D)):List D->List D->Sto->R (List D)
 | [],acc,s=>if okG g all s then .ok acc s else .no | x::xs,acc,s=>if okG g all s then (body x s).bind λo s1=>match o with
   | some d=>if acc.length<cap then vX g all body xs (acc++[d]) s1 else .no | none=>vX g all body xs acc s1 else .no
def z4b(fi:FI)(mp:List (Option Nat))(fg:FG)(ft:FT)(fe:FE):FA:=λZ s=>(fi Z s).bind λit s1=>vX it.2 it.1 (λd s=>(fg d (xY mp Z) s).bind λZ' s'=>(ft Z' s').bind λb s2=>if b=true then (fe Z' s2).bind λd s3=>.ok (some d) s3 else .ok none s2) it.1 [] s1
def z4u(mg:Gm)(E:XK)(mp:List (Option Nat))(g:TG)(fg:FG):Prop:=∀(O:L2.St) H Y Z s x d (Q:L2.St->Hp->Prop),Rep mg H Y s->wQ mg H Y (xY mp Z) (inner mp O)->Den mg H Y d x->okR mg E H Y (wQ mg) (fg d (xY mp Z) s) Q-> g x (inner mp O) H (λO2 H2=>(O2.length=(inner mp O).length/\∀(i:Nat) v,(inner mp O)[i]? = some (some v)->O2[i]? = some (some v))/\Q O2 H2)
theorem jN{mp:List (Option Nat)}{i:Nat}(h:mp[i]? = some none)(O:L2.St):(inner mp O)[i]? = some none:=by simp[L2.inner,h]
theorem kU{O:L2.St}{i:Nat}{v:V}(h:O[i]? = some none):(O.set i (some v)).length=O.length/\∀(j:Nat) u,O[j]? = some (some u)->(O.set i (some v))[j]? = some (some u):=by
 refine⟨by simp,λj u e=>?_⟩;have:i≠j:=λz=>by subst z;rw[h]at e;cases e
 rw[_y this];exact e
section
variable {X:Cx}{E:XK}{e a b c tg iter elt:Expr}{es:List Expr}{pos:Pos}{CX:CXT}{mp:List (Option Nat)}
theorem wr(i:Nat)(h:mp[i]? = some none):z4u (gm X) E mp (z4h i) (wa i):=λO H Y Z s x d Q r en dn ok=>by
 refine⟨kU (jN h O),?_⟩;exact okR.here (b:=(inner mp O).set i (some x)) ok r (en.set dn i)
theorem z6F{fi:FI}{g:TG}{fg:FG}{ft:FT}{fe:FE}{O:L2.St}{H:Hp}{Q:VK}{Y:List Addr}{Z:Ev}{s:Sto}{β:Type}{kR:List D->Sto->R β}{β2:Type}{Dn:Hp->List Addr->β->β2->Prop}{Q2:β2->Hp->Prop}(hg:z4u (gm X) E mp g fg)(r:Rep (gm X) H Y s)(en:wQ (gm X) H Y Z O) (h:okR (gm X) E H Y Dn ((z4b fi mp fg ft fe Z s).bind kR) Q2) (fin:∀H1 Y1 s1 xs vs,Rep (gm X) H1 Y1 s1->wQ (gm X) H1 Y1 Z O->zv (gm X) H1 Y1 xs vs->okR (gm X) E H1 Y1 Dn (kR xs s1) Q2->xs.length<=cap->∀p,H1 p=none->Q (.ref p) (upd H1 p (.lst vs))): zaR (tI (gm X) E fi) mp g (tT (gm X) E ft) (tE (gm X) E fe) O H Q:=by
 unfold z4b at h;have assoc:∀{α γ δ:Type}(x:R α)(f:α->Sto->R γ)(k:γ->Sto->R δ),(x.bind f).bind k=x.bind λa s=>(f a s).bind k:=λx f k=>by cases x<;>rfl
 rw[assoc]at h;refine⟨Y,Z,s,r,en,(okR.bind (Dn:=z8m (gm X)) h).imp λJ H1 ⟨Y1,s1,it,stp,ok,h1⟩=>?_⟩;obtain⟨items,gd⟩:=it;simp only at h1;refine⟨λi m ys H=>∃Y s acc,yQ (gm X) H1 Y1 H Y s/\zv (gm X) H Y acc ys/\acc.length<=cap/\m=items.length-i/\i<=items.length/\ okR (gm X) E H Y Dn ((vX gd items (λd s=>(fg d (xY mp Z) s).bind λZ' s'=>(ft Z' s').bind λb s2=>if b=true then (fe Z' s2).bind λd s3=>.ok (some d) s3 else .ok none s2) (items.drop i) acc s).bind kR) Q2, ⟨items.length,Y1,s1,[],.refl stp.rep,zv.nil,Nat.zero_le _,by simp,Nat.zero_le _,by simpa using h1⟩,?_⟩;rintro i m ys H2 ⟨Y2,s2,acc,stp2,dn2,hcap,rfl,hil,h2⟩;have en2:wQ (gm X) H2 Y2 Z O:=(en.mono stp).mono stp2;by_cases hlt:i<items.length
 ·right;rw[_aF hlt,vX]at h2;split at h2
  ·rename_i hG;obtain⟨go,yl⟩:=((ok H2 Y2 s2 stp2 hG i).1 items[i] (_t hlt));refine⟨go,λx H' y=>?_⟩;obtain⟨Y3,stp3,dn3⟩:=yl x H' y;have h3:=okR.rebase h2 stp3;rw[assoc,assoc]at h3;have h4:=okR.bind (Dn:=wQ (gm X)) h3;refine hg O H' Y3 Z s2 x items[i] _ stp3.rep ((en2.mono stp3).inner) dn3 (h4.imp λO4 H4 ⟨Y4,s4,Z4,stp4,en4,h5⟩=>?_);rw[assoc]at h5;refine⟨Y4,Z4,s4,stp4.rep,en4,(okR.bind (Dn:=bD) h5).imp λbb H5 ⟨Y5,s5,b',stp5,eb,h6⟩=>?_⟩;cases (show b'=bb from eb);have all5:yQ (gm X) H1 Y1 H5 Y5 s5:=((stp2.trans stp3).trans stp4).trans stp5;cases bb with
   | true=>
    rw[_f rfl]at h6 ⊢;rw[assoc]at h6;refine⟨Y5,Z4,s5,stp5.rep,en4.mono stp5,(okR.bind (Dn:=Den (gm X)) h6).imp λy H6 ⟨Y6,s6,d6,stp6,dn6,h7⟩=>?_⟩;simp only[Rb]at h7;split at h7
    ·rename_i hc;have all6:=all5.trans stp6;have dny:zv (gm X) H6 Y6 acc ys:=(((dn2.mono stp3).mono stp4).mono stp5).mono stp6;refine⟨by rw[dn2.length];exact xO hcap,items.length-(i+1),by omega,Y6,s6,acc++[d6],all6,dny.append (zv.one dn6),by simp;omega,rfl,hlt,h7⟩
    ·exact h7.elim | false=>
    rw[_o (by decide)]at h6 ⊢;simp only[Rb]at h6;exact⟨items.length-(i+1),by omega,Y5,s5,acc,all5,((dn2.mono stp3).mono stp4).mono stp5,hcap,rfl,hlt,h6⟩
  ·exact h2.elim
 ·left;have e:i=items.length:=by omega
  subst e;rw[List.drop_length,vX]at h2;split at h2
  ·rename_i hG;simp only[Rb]at h2;exact⟨(ok H2 Y2 s2 stp2 hG _).2 (_i _),by rw[dn2.length];exact xO hcap,fin H2 Y2 s2 acc ys stp2.rep en2 dn2 h2 hcap⟩
  ·exact h2.elim
def yE(fi:FI)(mp:List (Option Nat))(fg:FG)(ft:FT)(fe:FE):FE:=λZ s=>(z4b fi mp fg ft fe Z s).bind λxs s1=>.ok (.lst xs) s1
def vR:FT:=λ_ s=>.ok true s
theorem uj{Yy:Cx}:z6N Yy [] (tT (gm Yy) E vR):=λpins s O H Q I ⟨Y,Z,st,r,en,h⟩=>z6s pins s O H Q I (h.here (b:=true) r rfl)
theorem z4f{Yy:Cx}{f:FT}(h:RT Yy E c f):z6N Yy [c] (tT (gm Yy) E f):=z6H h
section
variable {scope:Scope}{ifs:List Expr}{fi:FI}{fg:FG}{ft:FT}{fe:FE}{g:TG}{spos py:Pos}
theorem z94(N':List Str)(mp:List (Option Nat))(hc:X.calm=true)(hi:RI X E tg iter fi)(hg:∀ex s H,PG (yr X N' scope ex s H) tg g)(hgt:z4u (gm X) E mp g fg)(ht:∀ex s H,z6N (yr X N' scope ex s H) ifs (tT (gm X) E ft))(he:∀ex s H,RE (yr X N' scope ex s H) E elt fe) (hkd:scope.kind=.function)(hnm:∀y∈scope.names,scope.names.lookup y.1=some y.2) (hfr:∀y∈scope.names,y.2=.free->X.env.kindOf y.1=some .cell\/X.env.kindOf y.1=some .free)(hmp:z2L X.N scope.names N' mp=true) (hs:∀x,foldedSetIterable iter X.env x=pure x:=by intro _;rfl):RE X E (.ListComp elt [⟨tg,iter,ifs,0⟩] scope pos) (yE fi mp fg ft fe):= zF (z7T (te:=tE (gm X) E fe) N' mp hc hi hg ht (λex s H=>he ex s H) hkd hnm hfr hmp hs).freeze λO H Q ⟨Y,Z,s,r,en,h⟩=> z6F hgt r en h λH1 Y1 s1 xs vs r1 en1 dn h1 hcap=>kE r1 h1 dn
end
end
section
variable {X:Cx}{E:XK}{e a b c tg iter elt:Expr}{es:List Expr}{pos:Pos}{CX:CXT}{mp:List (Option Nat)}
def z7j(K:W.Frag)(i j:Nat):TG:=zcw K 2 (z7Z (z4h i) (z7Z (z4h j) zcn))
theorem z6a(i j:Nat){x y:Str}{px py:Pos}{kt:Nat}(hc:X.calm=true)(hN:X.N.Nodup)(hi:X.N[i]? = some x:=by rfl)(hj:X.N[j]? = some y:=by rfl)(hx:Loc X.env.scope x:=by first | exact Or.inl rfl | exact Or.inr rfl)(hy:Loc X.env.scope y:=by first | exact Or.inl rfl | exact Or.inr rfl) (hf:X.fn x=true\/X.env.scope.names.lookup x=some .local:=by first | exact .inl rfl | exact .inr rfl | assumption)(hf':X.fn y=true\/X.env.scope.names.lookup y=some .local:=by first | exact .inl rfl | exact .inr rfl | assumption): PG X (.Tuple [.Name x px,.Name y py] kt pos) (z7j X.K i j):=zag hc (z3r (xZ hN hi hx hf) (z3r (xZ hN hj hy hf') z8p))
theorem z5v(i j:Nat)(hij:i≠j)(h:mp[i]? = some none)(h':mp[j]? = some none):z4u (gm X) E mp (z7j X.K i j) (z3Q i j):=λO H Y Z s x d Q r en dn ok=>by
 unfold z3Q at ok;split at ok
 ·rename_i d1 d2;obtain⟨p,vs,rfl,q1,q2⟩:=uR (K:=X.K) dn;obtain⟨v1,v2,rfl,e1,e2⟩:=z5u q2;have k1:=kU (v:=v1) (jN h O);have own2:((inner mp O).set i (some v1))[j]? = some none:=by rw[_y hij];exact jN h' O
  have k2:=kU (v:=v2) own2;exact⟨p,[v1,v2],rfl,q1,rfl,v1,[v2],rfl,v2,[],rfl,rfl,⟨k2.1.trans k1.1,λl u e=>k2.2 l u (k1.2 l u e)⟩,okR.here ok r ((en.set e1 i).set e2 j)⟩
 ·exact ok.elim
end
def zt(N:List Str)(ds:List D):Ev:=ds.map some++List.replicate (N.length-ds.length) none
theorem vW{mg:Gm}{H:Hp}{Y:List Addr}{N:List Str}:∀{ds:List D}{vs:List V},zv mg H Y ds vs->wQ mg H Y (zt N ds) (L2.start N vs):=λ{ds vs} h=>by
 have hl:=h.length;refine⟨by simp[zt,L2.start,hl],λi d e=>?_⟩;unfold zt at e;have hi:i<ds.length:=by
  by_cases hi:i<ds.length;·exact hi
  ·rw[List.getElem?_append_right (by simpa using hi),_as]at e;split at e<;>cases e
 rw[_p (by simpa using hi),_S]at e;have e':ds[i]? = some d:=by cases q:ds[i]? with
  | none=>rw[q]at e;cases e | some x=>rw[q]at e;simp at e;rw[e]
 obtain⟨v,h1,h2⟩:=h.get e';refine⟨v,?_,h2⟩;unfold L2.start;rw[_p (by simpa[hl] using hi),_S,h1];rfl
def Mof(N:List Str)(n:Nat)(fs:FS):Mir:=λds s=>if ds.length=n then (match fs (zt N ds) s with
 | .ok (.rt d) s'=>.ok d s' | .ok (.nx _) s'=>.ok .non s' | _=>.no) else .no
section
variable {P:Program}{w:World}{K:W.Frag}{mg:Str->Option Value}{base:Heap}
theorem Has.mono{CX:CXT}{x:Str}{n m:Nat}{M:Mir}(h:Has P w K mg base CX x n M)(hl:n<=m):Has P w K mg base CX x m M:=by
 obtain⟨f,fd,ps,F,r⟩:=h;exact⟨f,fd,ps,F.mono hl,r⟩
theorem xf{x qual:Str}{st:Stmt}{f:Addr}{fd:FuncData}{N ps:List Str}{k n:Nat}{fs:FS}(F:Fun K x qual st f fd)(hm:mg x=some (.ref f))(hb:Binds K fd ps [])(S:zC N ps (zh st))(hn:ps.length=n) (body:∀(cdv:Value)(A:Around)(outer:List Env)(s:Shared)(H:Hp)(E:XK),qO k (A.deeper (envOfC qual (zh st) s.heap.objs.size f cdv))->(jK CX0 P w K mg base N qual (zh st) f cdv A outer s H E).nox.calm=true-> RSs (jK CX0 P w K mg base N qual (zh st) f cdv A outer s H E).nox E0 (xz st) fs):Has P w K mg base CX0 x (k+1) (Mof N n fs):=by
 subst hn;refine⟨f,fd,ps,F.ok S (λvs H Q E h=>?_) (λcdv A outer s H vs Q E hr h=>?_),hb,F.kp,hm⟩
 ·obtain⟨Y,s,ds,_,dn,h⟩:=h;unfold Mof at h;split at h;·rename_i e;rw[dn.length];exact e
  ·exact h.elim
 ·obtain⟨Y,st0,ds,r,dn,h⟩:=h;refine⟨_,body cdv A outer s H E hr (by show A.handled.isNone=true;rw[show A.handled=none from hr.hd];rfl),Y,zt N ds,st0,r,vW dn,?_⟩;unfold Mof at h;split at h
  ·split at h
   ·rename_i d s' e;rw[e];intro fv H' Y' stp fd;cases fv with
    | rt v=>exact h v H' Y' stp fd | _=>exact (show False from fd).elim
   ·rename_i Z s' e;rw[e];intro fv H' Y' stp fd;cases fv with
    | nx v=>exact h .non H' Y' stp (by simp[Den]) | _=>exact (show False from fd).elim
   ·exact h.elim
  ·exact h.elim
theorem zar{x qual:Str}{st:Stmt}{f:Addr}{fd:FuncData}{ps:List Str}(F:Fun K x qual st f fd)(hm:mg x=some (.ref f))(hb:Binds K fd ps []):Has P w K mg base CX0 x 0 (λ_ _=>.no):= ⟨f,fd,ps,⟨λvs H Q E h=>by obtain⟨_,_,_,_,_,h⟩:=h;exact h.elim,λA outer s H args us vs Q E _ _ _ _ h=>by obtain⟨_,_,_,_,_,h⟩:=h;exact h.elim⟩,hb,F.kp,hm⟩
end
def z88(K:W.Frag):Sp:=λvs H Q _=>∃(a:Addr)(ns:List Int),vs=[.ref a]/\zbX H/\SqL K H a (ns.map V.int)/\ns.length<=63/\∀H',Q (.bl true) H'
theorem qC{mg:Gm}{H:Hp}{Y:List Addr}:∀(ns:List Int),zv mg H Y (ns.map D.int) (ns.map V.int)
 | []=>zv.nil | n::ns=>zv.cons yd (qC ns)
theorem zaI{P:Program}{w:World}{K:W.Frag}{mg:Str->Option Value}{base:Heap}{x:Str}{n:Nat}{M:Mir}{f:Addr}{fd:FuncData}{ps:List Str}(F:z0P P w K mg base CX0 n f fd ps (z6Q ⟨mg,K⟩ M)) (h:∀ns:List Int,ns.length<=63->∃s',M [.scr (ns.map D.int)] []=.ok (.bl true) s'):z0P P w K mg base CX0 n f fd ps (z88 K):= F.imp λvs H Q E ⟨a,ns,e,ho,hq,hl,q⟩=>by
  subst e;obtain⟨s',hs⟩:=h ns hl;refine⟨[],[],[.scr (ns.map D.int)],⟨rfl,List.nodup_nil,λl xs z=>by simp at z,λxs z=>by simp at z⟩,zv.one ?_,?_⟩
  ·simp only[Den];refine⟨a,ns.map V.int,rfl,?_,qC ns⟩;rcases hq with (z | z) | z
   ·rcases ho a with y | ⟨o,xs,y⟩;·rw[y]at z;cases z
    ·rw[y]at z;cases z
   ·exact .inl z
   ·exact .inr z
  ·rw[hs];intro v H' Y' stp dn;cases wI dn;exact q H'
section
variable {X:Cx}{E:XK}{e a b c tg iter elt:Expr}{es:List Expr}{pos:Pos}{CX:CXT}
def zc4(f:FE):FE:=λZ s=>(f Z s).bind λd s1=>match d with | .int i=>.ok (.int (-i)) s1 | _=>.no
theorem zbs{f:FE}(h:RE X E a f):RE X E (.UnaryOp .USub a pos) (zc4 f):= zF (zbY z9C h) λO H Q ⟨Y,Z,s,r,en,h⟩=>by
  refine zX (k:=λZ d s1=>match d with | .int i=>R.ok (D.int (-i)) s1 | _=>.no) r en h _ λv H1 Y1 s1 d r1 en1 dn stp h1=>?_;cases d with
  | int i=>
   cases yp dn;exact⟨i,rfl,okR.here (b:=V.int (-i)) h1 r1 yd⟩ | _=>exact h1.elim
end
def isK(o:Option NameKind)(k:NameKind):Bool:=match o,k with
 | some .local,.local=>true | some .cell,.cell=>true | some .free,.free=>true | some .globalImplicit,.globalImplicit=>true | _,_=>false
theorem z4N{o:Option NameKind}{k:NameKind}(h:isK o k=true):o=some k:=by cases o with
 | none=>cases k<;>simp[isK]at h | some j=>cases j<;>cases k<;>first | rfl | simp[isK]at h
def isF(k:NameKind):Bool:=match k with | .free=>true | _=>false
theorem z9n{k:NameKind}(h:k=.free):isF k=true:=by subst h;rfl
def zak(ko:Str->Option NameKind)(names:List (Str×NameKind)):Bool:=names.all λy=>!isF y.2||(isK (ko y.1) .cell||isK (ko y.1) .free)
theorem z5F{ko:Str->Option NameKind}{names:List (Str×NameKind)}(h:zak ko names=true):∀y∈names,y.2=.free->ko y.1=some .cell\/ko y.1=some .free:=λy hy hf=>by
 have:=_z.mp h y hy;rw[z9n hf]at this;simp only[Bool.not_true,Bool.false_or,Bool.or_eq_true]at this;exact this.imp z4N z4N
def z9a(names:List (Str×NameKind)):Bool:=names.all λy=>isK (names.lookup y.1) y.2
theorem z6g{names:List (Str×NameKind)}(h:z9a names=true):∀y∈names,names.lookup y.1=some y.2:=λy hy=>by
 have:=_z.mp h y hy;exact z4N this
section
variable {X:Cx}{E:XK}{e a b c tg iter elt:Expr}{es:List Expr}{pos:Pos}{CX:CXT}
variable {scope:Scope}{ifs:List Expr}{fi:FI}{fg:FG}{ft:FT}{fe:FE}{g:TG}{spos py:Pos}
theorem zcB{x:Str}{i:Int}(hg:Gl X x)(hm:∃t,X.mg x=some (.int i t))(hd:(x==("__debug__":Str))=false:=by decide):RE X E (.Name x pos) (eC (.int i)):=let ⟨_,h⟩:=hm;zab hg h hd
theorem vh(N':List Str)(mp:List (Option Nat))(hc:X.calm=true)(hi:RI X E tg iter fi)(hg:∀ex s H,PG (yr X N' scope ex s H) tg g)(hgt:z4u (gm X) E mp g fg)(ht:∀ex s H,z6N (yr X N' scope ex s H) ifs (tT (gm X) E ft))(he:∀ex s H,RE (yr X N' scope ex s H) E elt fe) (hkd:scope.kind=.function:=by rfl)(hnm:z9a scope.names=true:=by rfl)(hfr:zak X.env.kindOf scope.names=true:=by rfl)(hmp:z2L X.N scope.names N' mp=true:=by rfl) (hs:∀x,foldedSetIterable iter X.env x=pure x:=by intro _;rfl):RE X E (.ListComp elt [⟨tg,iter,ifs,0⟩] scope pos) (yE fi mp fg ft fe):= z94 N' mp hc hi hg hgt ht he hkd (z6g hnm) (z5F hfr) hmp hs
end
theorem z9v{P:Program}{w:World}{K:W.Frag}{mg:Str->Option Value}{base:Heap}{x qual:Str}{st:Stmt}{f:Addr}{fd:FuncData}{N ps:List Str}{k n:Nat}{fs:FS}(F:Fun K x qual st f fd)(S:zC N ps (zh st))(hn:ps.length=n) (body:∀(cdv:Value)(A:Around)(outer:List Env)(s:Shared)(H:Hp)(E:XK),qO k (A.deeper (envOfC qual (zh st) s.heap.objs.size f cdv))->(jK CX0 P w K mg base N qual (zh st) f cdv A outer s H E).nox.calm=true-> RSs (jK CX0 P w K mg base N qual (zh st) f cdv A outer s H E).nox E0 (xz st) fs):z0P P w K mg base CX0 (k+1) f fd ps (z6Q ⟨mg,K⟩ (Mof N n fs)):=by
 subst hn;refine F.ok S (λvs H Q E h=>?_) (λcdv A outer s H vs Q E hr h=>?_)
 ·obtain⟨Y,s,ds,_,dn,h⟩:=h;unfold Mof at h;split at h;·rename_i e;rw[dn.length];exact e
  ·exact h.elim
 ·obtain⟨Y,st0,ds,r,dn,h⟩:=h;refine⟨_,body cdv A outer s H E hr (by show A.handled.isNone=true;rw[show A.handled=none from hr.hd];rfl),Y,zt N ds,st0,r,vW dn,?_⟩;unfold Mof at h;split at h
  ·split at h
   ·rename_i d s' e;rw[e];intro fv H' Y' stp fd;cases fv with
    | rt v=>exact h v H' Y' stp fd | _=>exact (show False from fd).elim
   ·rename_i Z s' e;rw[e];intro fv H' Y' stp fd;cases fv with
    | nx v=>exact h .non H' Y' stp (by simp[Den]) | _=>exact (show False from fd).elim
   ·exact h.elim
  ·exact h.elim
section
variable {all xs:List D}{Z:Ev}{s:Sto}
theorem ji{body:D->Ev->Sto->R Fl}(I:Ev->Sto->Prop):∀(xs:List D),(∀x∈xs,∀Z s,I Z s->∃Z' s',body x Z s=.ok (.nx Z') s'/\I Z' s')->∀Z s,I Z s->∃Z' s',yJ [] all body xs Z s=.ok (.nx Z') s'/\I Z' s'
 | [],_,Z,s,h=>⟨Z,s,by simp[yJ,okG],h⟩ | x::xs,hb,Z,s,h=>by
  obtain⟨Z1,s1,e1,h1⟩:=hb x (by simp) Z s h;obtain⟨Z2,s2,e2,h2⟩:=ji I xs (λy hy=>hb y (by simp[hy])) Z1 s1 h1;exact⟨Z2,s2,by simp[yJ,okG,e1,e2],h2⟩
theorem z19{body:D->Sto->R (Option D)}(f:D->D):∀(xs acc:List D),(∀x∈xs,body x s=.ok (some (f x)) s)->acc.length+xs.length<=cap->vX [] all body xs acc s=.ok (acc++xs.map f) s
 | [],acc,_,_=>by simp[vX,okG] | x::xs,acc,hb,hl=>by
  have ih:=z19 f xs (acc++[f x]) (λy hy=>hb y (by simp[hy])) (by simp at hl ⊢;omega);have hc:acc.length<cap:=by simp at hl;omega
  rw[vX];simp[okG,hb x (by simp),hc,ih]
end
section
variable (i j k n:Nat)(Z:Ev)(s:Sto)(f g fa fb fc:FE)(d x y:D)(ds:List D)(ar:FA)(op op':D->D->Sto->R D)(ft ft':FT)(fs fs':FS)(M:Mir)(T:String)(fl fh fo:FO)(fi:FI)(fg:FG)(mp:List (Option Nat))(N:List Str)
@[simp] theorem qq:zc i Z s=(match Z[i]? with | some (some d)=>.ok d s | _=>.no):=id rfl
@[simp] theorem z22:eC d Z s=.ok d s:=id rfl
@[simp] theorem wD:eOp op fa fb Z s=(fa Z s).bind λx s1=>(fb Z s1).bind λy s2=>op x y s2:=id rfl
@[simp] theorem qd:zf M ar Z s=(ar Z s).bind λxs s1=>M xs s1:=id rfl
@[simp] theorem xB:zj Z s=.ok [] s:=id rfl
@[simp] theorem zy:za f ar Z s=(f Z s).bind λx s1=>(ar Z s1).bind λxs s2=>.ok (x::xs) s2:=id rfl
@[simp] theorem zcf:jM ar Z s=(ar Z s).bind λxs s1=>if xs.length<=cap then .ok (.tup xs) s1 else .no:=id rfl
@[simp] theorem uI:vd ar Z s=(ar Z s).bind λxs s1=>if xs.length<=cap then .ok (.lst xs) s1 else .no:=id rfl
@[simp] theorem zaw:z8R ar Z s=(ar Z s).bind λxs s1=>if xs.length<=cap/\D.flat.flats xs=true then .ok (.loc s1.length) (s1++[xs]) else .no:=id rfl
@[simp] theorem z6d:eIs T f Z s=(f Z s).bind λd s1=>gIs T d s1:=id rfl
@[simp] theorem zck:zc4 f Z s=(f Z s).bind λd s1=>match d with | .int i=>.ok (.int (-i)) s1 | _=>.no:=id rfl
@[simp] theorem zcb:zb2 f Z s=(f Z s).bind λx s1=>match x with | .bl k=>.ok (.bl (!k)) s1 | _=>.no:=id rfl
@[simp] theorem zay:z43 fa fb Z s=(fa Z s).bind λx s1=>match x with | .bl true=>fb Z s1 | .bl false=>.ok (.bl false) s1 | _=>.no:=id rfl
@[simp] theorem zbJ:eOr fa fb Z s=(fa Z s).bind λx s1=>match x with | .bl false=>fb Z s1 | .bl true=>.ok (.bl true) s1 | _=>.no:=id rfl
@[simp] theorem z8r:eIf ft fa fb Z s=(ft Z s).bind λx s1=>if x=true then fa Z s1 else fb Z s1:=id rfl
@[simp] theorem z6A:eSl f fl fh Z s=(f Z s).bind λx s1=>(fl Z s1).bind λlo s2=>(fh Z s2).bind λhi s3=>dSl x lo hi s3:=id rfl
@[simp] theorem uG:zO Z s=.ok none s:=id rfl
@[simp] theorem uX:yh f Z s=(f Z s).bind λd s1=>match d with | .int i=>.ok (some i) s1 | _=>.no:=id rfl
@[simp] theorem z8E:tOf f Z s=(f Z s).bind λd s1=>match d with | .bl k=>.ok k s1 | _=>.no:=id rfl
@[simp] theorem zaQ:zbl ft ft' Z s=(ft Z s).bind λx s1=>if x=true then ft' Z s1 else .ok false s1:=id rfl
@[simp] theorem z0p:fOr ft ft' Z s=(ft Z s).bind λx s1=>if x=true then .ok true s1 else ft' Z s1:=id rfl
@[simp] theorem kP:kg ft Z s=(ft Z s).bind λx s1=>.ok (!x) s1:=id rfl
@[simp] theorem zaV:z3t op op' fa fb fc Z s=(fa Z s).bind λx s1=>(fb Z s1).bind λy s2=>(op x y s2).bind λz s3=>match z with
 | .bl true=>(fc Z s3).bind λw s4=>op' y w s4 | .bl false=>.ok (.bl false) s3 | _=>.no:=id rfl
@[simp] theorem z0T:zM fs fs' Z s=(fs Z s).bind λfl s1=>match fl with | .nx Z'=>fs' Z' s1 | fl=>.ok fl s1:=id rfl
@[simp] theorem zbD:yO Z s=.ok (.nx Z) s:=id rfl
@[simp] theorem zd6:fNo Z s=.no:=id rfl
@[simp] theorem z2y:z2q f Z s=(f Z s).bind λ_ s1=>.ok (.nx Z) s1:=id rfl
@[simp] theorem ud:xV f Z s=(f Z s).bind λd s1=>.ok (.rt d) s1:=id rfl
@[simp] theorem vg:fIf ft fs fs' Z s=(ft Z s).bind λx s1=>if x=true then fs Z s1 else fs' Z s1:=id rfl
@[simp] theorem zY:wA i f Z s=(f Z s).bind λd s1=>.ok (.nx (Z.set i (some d))) s1:=id rfl
@[simp] theorem zch:zdq i j ar Z s=(ar Z s).bind λds s1=>match ds with | [x,y]=>.ok (.nx ((Z.set i (some x)).set j (some y))) s1 | _=>.no:=id rfl
@[simp] theorem jW:wa i d Z s=.ok (Z.set i (some d)) s:=id rfl
@[simp] theorem zb8:z3Q i j (.tup [x,y]) Z s=.ok ((Z.set i (some x)).set j (some y)) s:=id rfl
@[simp] theorem z8o:z1q fa fb fc Z s=(fc Z s).bind λd s1=>(fa Z s1).bind λo s2=>(fb Z s2).bind λi s3=>match o,i with
 | .loc l,.int k=>match s3[l]? with
  | some xs=>match ixN xs.length k with
   | some j=>if d.flat=true then .ok (.nx Z) (s3.set l (xs.set j d)) else .no | none=>.no
  | none=>.no
 | _,_=>.no:=id rfl
@[simp] theorem z2c:xu f Z s=(f Z s).bind λd s1=>match d with
 | .tup xs=>.ok (xs,[]) s1 | .lst xs=>.ok (xs,[]) s1 | .loc l=>match s1[l]? with | some xs=>.ok (xs,[(l,xs)]) s1 | none=>.no
 | _=>.no:=id rfl
@[simp] theorem za8:z7r ar Z s=(ar Z s).bind λds s1=>match ds with
 | [.int j]=>if -(2 ^ 62)<=j/\j<2 ^ 62 then .ok (yL j.toNat,[]) s1 else .no | _=>.no:=id rfl
@[simp] theorem zco:z8S ar Z s=(ar Z s).bind λds s1=>match ds with
 | [x,y]=>match z8a s1 x,z8a s1 y with
  | some p,some q=>.ok (z3b p.1 q.1,p.2++q.2) s1 | _,_=>.no
 | _=>.no:=id rfl
@[simp] theorem kf:z4t fi fg fs Z s=(fi Z s).bind λit s1=>yJ it.2 it.1 (λd Z s=>(fg d Z s).bind λZ' s'=>fs Z' s') it.1 Z s1:=id rfl
@[simp] theorem z5c:z4b fi mp fg ft f Z s=(fi Z s).bind λit s1=>vX it.2 it.1 (λd s=>(fg d (xY mp Z) s).bind λZ' s'=>(ft Z' s').bind λb s2=>if b=true then (f Z' s2).bind λd s3=>.ok (some d) s3 else .ok none s2) it.1 [] s1:=id rfl
@[simp] theorem z3q:yE fi mp fg ft f Z s=(z4b fi mp fg ft f Z s).bind λxs s1=>.ok (.lst xs) s1:=id rfl
@[simp] theorem zbV:vR Z s=.ok true s:=id rfl
@[simp] theorem zaN:z8Q fa fb Z s=(fa Z s).bind λo s1=>match o with
 | .loc l=>(fb Z s1).bind λd s2=>match s2[l]? with
  | some xs=>if d.flat=true/\xs.length<cap then .ok .non (s2.set l (xs++[d])) else .no | none=>.no
 | _=>.no:=id rfl
@[simp] theorem z6P:xY [] Z=[]:=id rfl
@[simp] theorem z8M:xY (some i::mp) Z=(Z[i]?).getD none::xY mp Z:=id rfl
@[simp] theorem z8P:xY (none::mp) Z=none::xY mp Z:=id rfl
variable (a b:Int)(u v:Bool)(xs ys:List D)
@[simp] theorem z2X:xy (.int a) (.int b) s=.ok (.int (a+b)) s:=rfl
@[simp] theorem z9z:xy (.tup xs) (.tup ys) s=if xs.length+ys.length<=cap then .ok (.tup (xs++ys)) s else .no:=rfl
@[simp] theorem z1k:xy (.lst xs) (.lst ys) s=if xs.length+ys.length<=cap then .ok (.lst (xs++ys)) s else .no:=rfl
@[simp] theorem zce:zbf (.int a) (.int b) s=.ok (.int (a-b)) s:=rfl
theorem z6M:wx (.int a) (.int b) s=if a.natAbs<BIG/\b.natAbs<BIG then .ok (.int (a*b)) s else .no:=by
 simp only[wx,dII,iOk];split<;>(rename_i h;split at h<;>simp_all)
theorem z84:z3F (.int a) (.int b) s=if 0<b/\b.natAbs<BIG then .ok (.int (a / b)) s else .no:=by
 simp only[z3F,dII,iOk];split<;>(rename_i h;split at h<;>simp_all)
theorem z6L:z3c (.int a) (.int b) s=if 0<b then .ok (.int (a % b)) s else .no:=by
 simp only[z3c,dII,iOk];split<;>(rename_i h;split at h<;>simp_all)
theorem z50:z3M (.int a) (.int b) s=if 0<=b/\b<=1000/\a.natAbs<1000 then .ok (.int (a ^ b.toNat)) s else .no:=by
 simp only[z3M,dII,iOk];split<;>(rename_i h;split at h<;>simp_all)
@[simp] theorem zcN:dLt (.int a) (.int b) s=.ok (.bl (decide (a<b))) s:=rfl
@[simp] theorem zd4:dLe (.int a) (.int b) s=.ok (.bl (decide (a<=b))) s:=rfl
@[simp] theorem zcM:dGt (.int a) (.int b) s=.ok (.bl (decide (b<a))) s:=rfl
@[simp] theorem z5T:dGe (.int a) (.int b) s=.ok (.bl (decide (b<=a))) s:=rfl
@[simp] theorem zbA:dEq (.int a) (.int b) s=.ok (.bl (decide (a=b))) s:=by
 have:eqD (.int a) (.int b)=decide (a=b):=by
  simp only[eqD,wc,PyData.eqv];rw[_aK];simp
 rw[dEq,this];rfl
@[simp] theorem z7D:dNe (.int a) (.int b) s=.ok (.bl (decide (a≠b))) s:=by
 have:eqD (.int a) (.int b)=decide (a=b):=by
  simp only[eqD,wc,PyData.eqv];rw[_aK];simp
 rw[dNe,this,_f (by constructor<;>rfl)];simp
@[simp] theorem z9N:dEq (.bl u) (.bl v) s=.ok (.bl (u==v)) s:=by cases u<;>cases v<;>rfl
@[simp] theorem zcY:dNe (.bl u) (.bl v) s=.ok (.bl (u != v)) s:=by cases u<;>cases v<;>rfl
end
theorem zn{f g:FS}{Z Z':Ev}{s s':Sto}(h:f Z s=.ok (.nx Z') s'):zM f g Z s=g Z' s':=by simp[h]
theorem uK{f g:FS}{Z:Ev}{s s':Sto}{d:D}(h:f Z s=.ok (.rt d) s'):zM f g Z s=.ok (.rt d) s':=by simp[h]
theorem z0H{all:List D}{body:D->Ev->Sto->R Fl}(I:Nat->Ev->Sto->Prop):∀(xs:List D)(k:Nat),(∀j x,xs[j]? = some x->∀Z s,I (k+j) Z s->∃Z' s',body x Z s=.ok (.nx Z') s'/\I (k+j+1) Z' s')-> ∀Z s,I k Z s->∃Z' s',yJ [] all body xs Z s=.ok (.nx Z') s'/\I (k+xs.length) Z' s'
 | [],k,_,Z,s,h=>⟨Z,s,by simp[yJ,okG],h⟩ | x::xs,k,hb,Z,s,h=>by
  obtain⟨Z1,s1,e1,h1⟩:=hb 0 x (by simp) Z s h;obtain⟨Z2,s2,e2,h2⟩:=z0H (all:=all) I xs (k+1) (λj y hy Z s hi=>by
   have e:k+1+j=k+(j+1):=by omega
   rw[e]at hi ⊢;exact hb (j+1) y (by simpa using hy) Z s hi) Z1 s1 h1;refine⟨Z2,s2,by simp[yJ,okG,e1,e2],?_⟩;have e:k+(x::xs).length=k+1+xs.length:=by simp;omega
  rw[e];exact h2
theorem z1J{n j:Nat}{x:D}(h:(yL n)[j]? = some x):j<n/\x=.int j:=by
 have hj:j<n:=by
  have:=(_b.mp h).1;simpa[yL] using this
 refine⟨hj,?_⟩;simp only[yL,_S,List.getElem?_range hj,_aJ,_I]at h;exact h.symm
theorem z3S {n:Nat} {x:D} (h:x∈yL n):∃j:Nat,j<n/\x=.int j:=by
 obtain⟨j,hj,e⟩:=_ag.mp h;have:=z1J (n:=n) (j:=j) (x:=x) (by rw[_t hj,e]);exact⟨j,this.1,this.2⟩
theorem qe:∀(ns:List Int),D.flat.flats (ns.map D.int)=true
 | []=>rfl | n::ns=>by simp[D.flat.flats,D.flat,qe ns]
theorem uE(i:Int):(D.int i).flat=true:=rfl
theorem wP.flatten{mg:Gm}{H H':Hp}{Y Y':List Addr}{ys:List D}{c:Addr}(k:∀b o,H b=some o->(∀vs,o≠.lst vs)->(∀kvs,o≠.dT kvs)->H' b=some o)(f:D.flat.flats ys=true)(e:H' c=H c)(h:wP mg H Y ys c):wP mg H' Y' ys c:=by
 rcases h with⟨vs,h1,h2⟩ | ⟨kvs,h1,h2⟩ | ⟨o,kvs,ys,h1,h2⟩;·exact .inl ⟨vs,e.trans h1,h2.flatten k f⟩
 ·exact .inr (.inl ⟨kvs,e.trans h1,h2⟩)
 ·exact .inr (.inr ⟨o,kvs,ys,e.trans h1,h2⟩)
end Dd
namespace Zz
open PySem.AutoSeq1 (wpAny_loadPart')
end Zz
namespace L2
open Zz
end L2
namespace L2
end L2
namespace Dd
open L2
end Dd
namespace L2
end L2
namespace Dd
open L2
def ww(ft:FT)(fb:FS):Nat->Ev->Sto->R Fl
 | 0,_,_=>.no | k+1,Z,s=>(ft Z s).bind λb s1=>if b=true then (fb Z s1).bind λfl s2=>match fl with
   | .nx Z'=>ww ft fb k Z' s2 | .ct Z'=>ww ft fb k Z' s2 | .bk Z'=>.ok (.nx Z') s2 | .rt d=>.ok (.rt d) s2 else .ok (.nx Z) s1
theorem uZ{ft:FT}{fb:FS}:∀{k:Nat}{Z:Ev}{s:Sto},ww ft fb k Z s≠.no->ww ft fb (k+1) Z s=ww ft fb k Z s
 | 0,Z,s,h=>absurd rfl h | k+1,Z,s,h=>by
  rw[ww]at h ⊢;conv=>rhs;rw[ww]
  cases e:ft Z s with
  | no=>rfl | ex c t=>rfl | ok b s1=>
   rw[e]at h;simp only[Rb]at h ⊢;cases b with
   | false=>rfl | true=>
    rw[_f rfl]at h ⊢;rw[_f rfl];cases e2:fb Z s1 with
    | no=>rfl | ex c t=>rfl | ok fl s2=>
     rw[e2]at h;simp only[Rb]at h ⊢;cases fl with
     | nx Z'=>exact uZ h | ct Z'=>exact uZ h | bk Z'=>rfl | rt d=>rfl
theorem z3a{ft:FT}{fb:FS}{k m:Nat}{Z:Ev}{s:Sto}(h:ww ft fb k Z s≠.no)(hm:k<=m):ww ft fb m Z s=ww ft fb k Z s:=by induction hm with
 | refl=>rfl | step _ ih=>rw[uZ (by rw[ih];exact h),ih]
open Classical in
def z1N(ft:FT)(fb:FS):FS:=λZ s=>if h:∃k,ww ft fb k Z s≠.no then ww ft fb h.choose Z s else .no
theorem z6k{ft:FT}{fb:FS}{k:Nat}{Z:Ev}{s:Sto}{r:R Fl}(h:ww ft fb k Z s=r)(hr:r≠.no):z1N ft fb Z s=r:=by
 subst h;have hx:∃k,ww ft fb k Z s≠.no:=⟨k,hr⟩;unfold z1N;rw[dif_pos hx];rcases Nat.le_total k hx.choose with z | z;·exact z3a hr z
 ·exact (z3a hx.choose_spec z).symm
theorem z7H {X:Cx} {E:XK} {c:Expr} {body:List Stmt} {pos:Pos} {ft:FT} {fb:FS} (hp:PassesOwn (model X.prog X.w) X.A X.env X.xe) (hc:RT X E c ft) (hb:RSs X E body fb):RS X E (.While c body [] pos) (z1N ft fb):= js (z6x hp hc hb) λD O H ⟨Y,Z,s,r,en,h⟩=>by
  unfold z1N at h;split at h
  ·rename_i hx;refine⟨λm O H=>∃Y Z s,Rep (gm X) H Y s/\wQ (gm X) H Y Z O/\okR (gm X) E H Y (FlD (gm X)) (ww ft fb m Z s) (z0q D),⟨_,Y,Z,s,r,en,h⟩,?_⟩;rintro m O H ⟨Y,Z,s,r,en,h⟩;cases m with
   | zero=>exact h.elim | succ m=>
    rw[ww]at h;refine⟨Y,Z,s,r,en,(okR.bind (Dn:=bD) h).imp λb H1 ⟨Y1,s1,b',stp,eb,h1⟩=>?_⟩;cases (show b'=b from eb);cases b with
    | false=>
     rw[_o (by decide)]at h1 ⊢;exact okR.here (b:=FlV.nx O) (Q:=z0q D) h1 stp.rep (en.mono stp) | true=>
     rw[_f rfl]at h1 ⊢;refine⟨λO' H'=>∃Y Z s,Rep (gm X) H' Y s/\wQ (gm X) H' Y Z O'/\okR (gm X) E H' Y (FlD (gm X)) (ww ft fb m Z s) (z0q D),λO' H' q=>⟨m,_aZ _,q⟩,Y1,Z,s1,stp.rep,en.mono stp,(okR.bind (Dn:=FlD (gm X)) h1).imp λfv H2 ⟨Y2,s2,fl,stp2,dn,h2⟩=>?_⟩;cases fl with
     | nx Z'=> cases fv with
      | nx O'=>exact⟨Y2,Z',s2,stp2.rep,dn,h2⟩ | _=>exact (show False from dn).elim
     | ct Z'=> cases fv with
      | ct O'=>exact⟨Y2,Z',s2,stp2.rep,dn,h2⟩ | _=>exact (show False from dn).elim
     | bk Z'=> cases fv with
      | bk O'=>exact okR.here (b:=FlV.nx O') (Q:=z0q D) (a:=Fl.nx Z') (s:=s2) h2 stp2.rep dn | _=>exact (show False from dn).elim
     | rt d=> cases fv with
      | rt v=>exact okR.here (b:=FlV.rt v) (Q:=z0q D) (a:=Fl.rt d) (s:=s2) h2 stp2.rep dn | _=>exact (show False from dn).elim
  ·exact h.elim
end Dd
namespace PySem
open PySem.AutoSeq1 (wpAny_loadPart')
open MeetsSeq MeetsSeq2 SeqAt
end PySem
namespace L2
end L2
namespace Dd
open L2
theorem yQ.cut{mg:Gm}{H H1:Hp}{Y Y1:List Addr}{s1:Sto}(stp:yQ mg H Y H1 Y1 s1):yQ mg H Y H1 (Y1.take Y.length) (s1.take Y.length):=by
 have fl:∀{ds:List D}{ws:List V},D.flat.flats ds=true->zv mg H1 Y1 ds ws->zv mg H1 (Y1.take Y.length) ds ws:=λf h=>h.flatten (λ_ _ h _ _=>h) f;refine⟨⟨by simp[stp.rep.len],stp.rep.nd.sublist (_bp _ _),λj ys h=>?_,λys h=>stp.rep.flat ys (_Q h)⟩,?_,stp.keep,λc h1 h2=>stp.new c (_Q h1) h2,stp.mt⟩
 ·have hj:j<Y.length:=by
   have:=(_b.mp h).1;simp at this;omega
  rw[_W hj]at h ⊢;obtain⟨c,q1,q2⟩:=stp.rep.cell j ys h;exact⟨c,q1,q2.flatten (λ_ _ h _ _=>h) (stp.rep.flat _ (_r h)) rfl⟩
 ·obtain⟨t,ht⟩:=stp.pre;exact⟨[],by rw[<- ht,List.take_append];simp⟩
theorem yQ.frzC{mg:Gm}{H H1:Hp}{Y Y1:List Addr}{s1:Sto}{l:Nat}{xs:List D}(stp:yQ mg H Y H1 Y1 s1){a:Addr}(hl:Y.length<=l)(hx:s1[l]? = some xs)(e1:Y1[l]? = some a)(ka:IsL H1 a):∃vs,H1 a=some (.lst vs)/\ ∀o,yQ mg H Y (upd H1 a (.frz o (.lst vs))) (Y1.take Y.length) (s1.take Y.length)/\Den mg (upd H1 a (.frz o (.lst vs))) (Y1.take Y.length) (.lst xs) (.ref a):=by
 obtain⟨vs,e2,e3⟩:=stp.rep.at_ hx e1 ka;refine⟨vs,e2,λo=>?_⟩;have il:l<Y1.length:=(_b.mp e1).1;have an:a∉Y:=λz=>by
  obtain⟨j,hj,ej⟩:=_ag.mp z;obtain⟨t,ht⟩:=stp.pre;have:Y1[j]? = some a:=by rw[<- ht,_p hj,_t hj,ej]
  have:=(_aX stp.rep.nd).mp (((_b.mp this).2).trans ((_b.mp e1).2).symm);omega
 have a0:H a=none:=stp.new a (_r e1) an;have k:∀b u,H1 b=some u->(∀vs,u≠.lst vs)->(∀kvs,u≠.dT kvs)->upd H1 a (.frz o (.lst vs)) b=some u:=λb u h hn _=>by rw[zu (λz=>by subst z;rw[e2]at h;exact hn vs (_s h).symm)];exact h
 have fl:∀{ds:List D}{ws:List V},D.flat.flats ds=true->zv mg H1 Y1 ds ws->zv mg (upd H1 a (.frz o (.lst vs))) (Y1.take Y.length) ds ws:=λf h=>h.flatten k f;have mem:∀{j:Nat}{ys:List D},s1[j]? = some ys->D.flat.flats ys=true:=λe=>stp.rep.flat _ (_r e);refine⟨⟨⟨by simp[stp.rep.len],stp.rep.nd.sublist (_bp _ _),λj ys h=>?_,λys h=>stp.rep.flat ys (_Q h)⟩,?_,λb u h n=>?_,λc h1 h2=>stp.new c (_Q h1) h2,λb hb=>?_⟩,?_⟩
 ·have hj:j<Y.length:=by
   have:=(_b.mp h).1;simp at this;omega
  rw[_W hj]at h ⊢;obtain⟨c,q1,q2⟩:=stp.rep.cell j ys h;refine⟨c,q1,q2.flatten k (mem h) (zu λz=>?_)⟩;subst z;have:=(_aX stp.rep.nd).mp (((_b.mp q1).2).trans ((_b.mp e1).2).symm);omega
 ·obtain⟨t,ht⟩:=stp.pre;exact⟨[],by rw[<- ht,List.take_append];simp⟩
 ·rw[zu (λz=>by subst z;rw[a0]at h;cases h)];exact stp.keep b u h n
 ·have ne:b≠a:=λz=>an (z ▸ hb);rcases stp.mt b hb with⟨q1,q2⟩ | ⟨q1,q2,q3⟩;·exact .inl ⟨q1,by rw[IsL,zu ne];exact q2⟩
  ·exact .inr ⟨q1,by rw[IsC,zu ne];exact q2,λo u z=>by rw[zu ne];exact q3 o u z⟩
 ·simp only[Den];exact⟨a,o,vs,rfl,ya,fl (mem hx) e3⟩
def z9E(n:Nat):R D->R D
 | .ok (.loc l) s1=>match s1[l]? with
  | some xs=>if n<=l then .ok (.lst xs) (s1.take n) else .no | none=>.no
 | .ok _ _=>.no | .ex c s1=>.ex c s1 | .no=>.no
def z2e(f:FE):FE:=λZ s=>z9E s.length (f Z s)
section
variable {X:Cx}{E:XK}{e:Expr}
theorem z59{f:FE}(h:RE X E e f):RE X E e (z2e f):= zF (PE.freeze h) λO H Q ⟨Y,Z,s,r,en,h⟩=>by
  refine⟨Y,Z,s,r,en,?_⟩;unfold z2e z9E at h;split at h
  ·rename_i l s1 e1;rw[e1];split at h
   ·rename_i xs ex;split at h
    ·rename_i hl;intro v H1 Y1 stp dn;simp only[Den]at dn;obtain⟨a,rfl,q1,ka⟩:=dn;obtain⟨vs,q2,q3⟩:=stp.frzC (by rw[r.len];exact hl) ex q1 ka;rw[<- r.len]at h;exact⟨a,vs,rfl,q2,λo=>h _ _ _ (q3 o).1 (q3 o).2⟩
    ·exact h.elim
   ·exact h.elim
  ·exact h.elim
  ·rename_i e1;rw[e1];exact h
  ·exact h.elim
end
@[simp] theorem z7m (f:FE)(Z:Ev)(s:Sto):z2e f Z s=z9E s.length (f Z s):=id rfl
@[simp] theorem z6y {s:Sto}{xs:List D}:z9E s.length (.ok (.loc s.length) (s++[xs]))=.ok (.lst xs) s:=by simp[z9E]
def z3x(n:Nat):R D->R D
 | .ok (.loc l) s1=>if l<n then .ok (.loc l) (s1.take n) else .ok (.loc l) s1 | .ok d s1=>if d.flat=true then .ok d (s1.take n) else .ok d s1 | r=>r
def z3U(M:Mir):Mir:=λds s=>z3x s.length (M ds s)
theorem z7z{mg:Gm}{M:Mir}{vs:List V}{H:Hp}{Q:VK}{E:XK}(h:z6Q mg (z3U M) vs H Q E):z6Q mg M vs H Q E:=by
 obtain⟨Y,s,ds,r,dn,h⟩:=h;refine⟨Y,s,ds,r,dn,?_⟩;unfold z3U z3x at h;split at h
 ·rename_i l s1 e;rw[e];split at h
  ·rename_i hl;intro v H1 Y1 stp dv;rw[<- r.len]at h;refine h v H1 _ stp.cut ?_;simp only[Den]at dv ⊢;obtain⟨a,rfl,e1,ka⟩:=dv;exact⟨a,rfl,by rw[_W (by rw[r.len];exact hl)];exact e1,ka⟩
  ·exact h
 ·rename_i d s1 hn e;rw[e];split at h
  ·rename_i hf;intro v H1 Y1 stp dv;rw[<- r.len]at h;exact h v H1 _ stp.cut (dv.flatten (λ_ _ h _ _=>h) hf)
  ·exact h
 ·exact h
section
variable {P:Program}{w:World}{K:W.Frag}{mg:Str->Option Value}{base:Heap}
theorem Has.tidy{CX:CXT}{x:Str}{n:Nat}{M:Mir}(h:Has P w K mg base CX x n M):Has P w K mg base CX x n (z3U M):=by
 obtain⟨f,fd,ps,F,r⟩:=h;exact⟨f,fd,ps,F.imp λvs H Q E h=>z7z h,r⟩
end
@[simp] theorem z2i (M:Mir)(ds:List D)(s:Sto):z3U M ds s=z3x s.length (M ds s):=id rfl
@[simp] theorem wK {d:D}{n:Nat}{s1:Sto}(h:d.flat=true):z3x n (.ok d s1)=.ok d (s1.take n):=by cases d<;>first | (simp[D.flat]at h;done) | simp_all[z3x]
section
variable {P:Program}{w:World}{K:W.Frag}{mg:Str->Option Value}{base:Heap}{CX:CXT}{n:Nat}
theorem z5C:∀y M,([]:List (Str×Mir)).lookup y=some M->Has P w K mg base CX y n M:=λy M h=>by simp at h
theorem z1G{x:Str}{M0:Mir}{Ms:List (Str×Mir)}(h:Has P w K mg base CX x n M0)(hs:∀y M,Ms.lookup y=some M->Has P w K mg base CX y n M):∀y M,((x,M0)::Ms).lookup y=some M->Has P w K mg base CX y n M:=λy M e=>by
 rw[_G]at e;split at e
 ·rename_i hb;cases e;have:y=x:=by simpa using hb
  subst this;exact h
 ·exact hs y M e
end
def Sub(K:W.Frag)(h:Heap):Prop:=∀p∈K,h.get? p.1=some p.2
theorem Sub.in_{K:W.Frag}{h:Heap}(s:Sub K h):K.In h:=λa o e=>by induction K with
 | nil=>simp at e | cons p K ih=>
  obtain⟨b,u⟩:=p;rw[_G]at e;split at e
  ·rename_i hb;cases e;have:a=b:=by simpa using hb
   subst this;exact s (a,o) (by simp)
  ·exact ih (λq hq=>s q (by simp[hq])) e
theorem z08(h:Heap)(a:Addr):Sub (z2a h a) h:=λp hp=>by
 unfold z2a at hp;split at hp
 ·rename_i o e;simp at hp;subst hp;exact e
 ·simp at hp
theorem Sub.app{K L:W.Frag}{h:Heap}(a:Sub K h)(b:Sub L h):Sub (K++L) h:=λp hp=>(_F.mp hp).elim (a p) (b p)
theorem z7q(h:Heap)(ns:List Str):Sub (gat h ns) h:=by
 refine (z08 h _).app λp hp=>?_;obtain⟨x,_,hx⟩:=List.mem_flatMap.mp hp;unfold zcr at hx;split at hx
 ·rcases _F.mp hx with hx | hx;·exact z08 h _ p hx
  ·split at hx
   ·split at hx;·exact z08 h _ p hx
    ·simp at hx
   ·exact z08 h _ p hx
   ·simp at hx
 ·simp at hx
def zci(K:W.Frag)(x:Str)(st:Stmt):Prop:=∃f fd,W.nsIn K mainGlobals x=some (some (.ref f))/\Fun K x x st f fd
theorem dA(s:Stmt):dArgs s=uU s:=by cases s<;>rfl
theorem dB(s:Stmt):z9I s=xz s:=by cases s<;>rfl
theorem dS(s:Stmt):z71 s=zh s:=by cases s<;>rfl
theorem z7P{K:W.Frag}{x:Str}{st:Stmt}(h:z8j K x=zbm x st):zci K x st:=by
 unfold z8j zbm at h;rw[dA,dB,dS]at h;split at h
 ·rename_i f hf;split at h
  ·rename_i oc od fd sl hl;simp only[_I,Prod.mk.injEq]at h;obtain⟨h1,h2,h3,h4,h5,h6,h7,h8,h9,h10,h11⟩:=h;obtain⟨a1,a2,a3,a4,a5,a6,a7,a8,a9,a10,a11,a12,a13,a14,a15⟩:=fd;simp only at h1 h2 h3 h4 h5 h6 h7 h8 h9 h10;subst h1 h3 h4 h5 h6 h7 h8 h9;subst h2;exact⟨f,_,hf,zah hl h10 h11⟩
  ·cases h
 ·cases h
theorem z5B{K:W.Frag}{x:Str}(h:z7O K x=true):W.nsIn K mainGlobals x=some none:=by
 unfold z7O at h;split at h;·rename_i e;exact e
 ·cases h
theorem z6B{K:W.Frag}{x:Str}{i:Int}(h:z8H K x=some i):∃t,W.nsIn K mainGlobals x=some (some (.int i t)):=by
 unfold z8H at h;split at h;·rename_i j t e;cases h;exact⟨t,e⟩
 ·cases h
def saysS(q:Ask)(w:World)(h:Heap):Prop:=∃K:W.Frag,K.In h/\z4C q K=valS q w
theorem z7p(q:Ask)(w:World)(s:Shared)(e:obsS q s=valS q w):saysS q w s.heap:=⟨_,(z7q _ _).in_,e⟩
theorem z3P(q:Ask)(w:World)(h h':Heap)(x:saysS q w h)(k:∀b o,h.get? b=some o->h'.get? b=some o):saysS q w h':=let ⟨K,a,b⟩:=x;⟨K,a.keeps k,b⟩
theorem z1T{α β:Type}{f g:α->β}:∀{l:List α},l.map f=l.map g->∀x∈l,f x=g x:=λh x hx=>List.map_inj_left.mp h x hx
theorem zc1{q:Ask}{w:World}{K:W.Frag}(e:z4C q K=valS q w)(x:Str)(st:Stmt)(hx:(x,st)∈q.fs):zci K x st:=z7P (z1T (_aC Prod.fst e) (x,st) hx)
theorem zbp{q:Ask}{w:World}{K:W.Frag}(e:z4C q K=valS q w)(x:Str)(hx:x∈q.bs):W.nsIn K mainGlobals x=some none:=z5B (z1T (_aC (λz=>z.2.1) e) x hx)
theorem zc7{q:Ask}{w:World}{K:W.Frag}(e:z4C q K=valS q w)(x:Str)(i:Int)(hx:(x,i)∈q.cs):∃t,W.nsIn K mainGlobals x=some (some (.int i t)):=z6B (z1T (_aC (λz=>z.2.2.1) e) (x,i) hx)
theorem z3O{p q:Program}{loose:List Str}{Xt:Shared->Bool}{α:Type}{Yf:Shared->α}{Ya:World->α}{N:Nat}{g0:Bool} (bo:∀w:World,(W.fencedOpening treeTable p w N).map (λs=>(s.heap,s.gens,s.drawn,s.toks))=some (W.boot_heap w.params,Array.mk [],W.boot_drawn,W.boot_toks)) (hf:∀(w:World)(os:OsState),(W.topFrom treeTable p w N ⟨W.boot_heap w.params,Array.mk [],W.boot_drawn,W.boot_toks,os⟩).map (λs=>(W.openSeen q loose (importedModules p.main.body) Xt g0 s,Yf s))=some (W.openGood q loose,Ya w)):W.LeftO p q loose Xt Yf Ya N g0:=λw=>by
 obtain⟨⟨h,gs,d,k,os⟩,e,e'⟩:=_x.mp (bo w);obtain⟨rfl,rfl,rfl,rfl⟩:h=W.boot_heap w.params/\gs=Array.mk []/\d=W.boot_drawn/\k=W.boot_toks:=by simpa only [Prod.mk.injEq] using e'
 unfold W.openEnds;rw[e,_Z];exact hf w os
theorem z1j{tb:String->Option Builtin}{p:Program}{w:World}{n₀:Nat}{ann:Option Value}:∀{n:Nat}{s s':W.SharedT}{t:Thread},jU tb p w n₀ ann n s t=some s'->W.topRun tb p w n₀ ann n s.abs t=some s'.abs
 | 0,_,_,_,h=>by cases h | n+1,s,s',t,h=>by
  unfold jU at h;unfold W.topRun;cases he:W.through t with
  | true=>rw[he]at h;cases h;rfl | false=>
   rw[he]at h;cases hk:W.stepOk n₀ ann t with
   | false=>rw[hk]at h;cases h | true=>
    rw[hk]at h;cases hs:W.stepT (denote tb) p w s t with
    | none=>rw[hs]at h;cases h | some r=>obtain⟨s₂,t₂⟩:=r;rw[hs]at h;rw[W.stepT_spec hs];exact z1j h
theorem z3v{p:Program}{w:World}{N:Nat}{h:Heap}{d:Drawn}{k:Nat}{os:OsState}{t0:W.BT}{m₀:Nat}{ann:Option Value}(ha:W.absHeap t0 m₀ h.life=h) (sz:(h.isNs mainGlobals&&(Array.mk []:Array GenState).size==0,h.objs.size,h.nsMap mainGlobals "__annotations__")=(true,m₀,ann)){α:Type}{f:Shared->α}{v:α} (hr:(jU treeTable p w m₀ ann N ⟨t0,m₀,h.life,Array.mk [],d,k,os⟩ (W.topStub p)).map (λsT=>(W.staticsOk (importedModules p.main.body) h sT.abs.heap&&W.namesBound p sT.abs.heap&&W.gensDone sT.abs&&W.laidKept h sT.abs.heap,f sT.abs))=some (true,v)): (W.topFrom treeTable p w N ⟨h,Array.mk [],d,k,os⟩).map f=some v:=by
 obtain⟨sT,e1,e2⟩:=_x.mp hr;obtain⟨e3,e4⟩:=Prod.mk.inj e2;obtain⟨z1,z2,z3⟩:_/\_/\_:=by simpa only [Prod.mk.injEq] using sz
 have r:=z1j e1;have a0:(⟨t0,m₀,h.life,Array.mk [],d,k,os⟩:W.SharedT).abs=⟨h,Array.mk [],d,k,os⟩:=by
  show (⟨W.absHeap t0 m₀ h.life,Array.mk [],d,k,os⟩:Shared)=_;rw[ha]
 rw[a0]at r;have t:W.topFrom treeTable p w N ⟨h,Array.mk [],d,k,os⟩=some sT.abs:=by
  unfold W.topFrom;dsimp only;rw[z1,z2,z3];dsimp only;rw[r];show (match (W.staticsOk (importedModules p.main.body) h sT.abs.heap&&W.namesBound p sT.abs.heap&&W.gensDone sT.abs&&W.laidKept h sT.abs.heap) with | true=>some sT.abs | false=>none)=_;rw[e3]
 rw[t,_aJ,e4]
theorem z5l{α β γ δ:Type}{r:Option α}{f:α->β}{g:α->γ}{k:α->δ}{x:β}{y:γ}{z:δ}(h1:r.map (λs=>(f s,k s))=some (x,z))(h2:r.map g=some y):r.map (λs=>(f s,(g s,k s)))=some (x,(y,z)):=by
 obtain⟨s,e1,e2⟩:=_x.mp h1;obtain⟨s',e3,e4⟩:=_x.mp h2;rw[e1]at e3;cases e3;obtain⟨e5,e6⟩:=Prod.mk.inj e2;rw[e1,_aJ,e4,e5,e6]
theorem walkY{l:W.OpenLaw}{n k:Nat}{q:Program}{loose:List Str}{XP:(Str->Option Value)->Heap->Prop}{YP:World->Heap->Prop}{d:DefRec}{x:Str} (hn:l.most=some n)(hn2:n<=sizeLine)(hn3:n<=63)(hdf:d.params.defaults=[])(hr:qO k callerA) (F:∀(w:World)(mg:Str->Option Value)(fa:Addr)(h:Heap),YP w h->h.Ns mainGlobals mg->mg d.name=some (.ref fa)->XP mg h-> ∃K:W.Frag,K.In h/\∃fd:FuncData,(∀(s:Shared)(u:Value),BindsTo s fd ⟨[u],[]⟩ [(x,u)])/\ ∀base:Heap,K.In base->base.Ns mainGlobals mg->z0P l.prog w K mg base CX0 k fa fd [x] (z88 K)): W.WalkO q loose XP YP l.row.toRowW d [] (λf vs=>PySem.call f vs):=by
 refine Att.z2h hn hdf λw s₀ s₁ mg mb fa o pm cd doc a vs ns G Yy ho hd hcd hmg hobj hints hlen hg=>?_;obtain⟨K,KX,fd,hb,hF⟩:=F w mg fa _ Yy G.T.g hmg G.X;exact z63 KX G.T.g G.T.b G.T.builtins G.T.nolimit hg hobj hints (_v hlen hn2) hr hF hb (λH hO hS=>⟨a,ns,rfl,hO,hS,_v hlen hn3,λ_=>rfl⟩) λH e s' z=>z
end Dd
namespace HT
end HT
namespace L2
end L2
namespace Dd
open L2
structure Fly(P:Program)(w:World)(outer:List Env)(H:Hp)(s:Shared)(C ea:Addr)(H':Hp)(s':Shared):Prop where
 os:s'.os=s.os
 bare:AllBare s'.gens
 un:Un (frs outer) [] H H' s.heap s'.heap
 hok:HOk P w H' s'.heap
 fly:∃B a0,Heap.FlyingW B outer ea (.ref C) a0 s'.heap/\∀b o,s'.heap.get? b=some o->(H' b≠none\/((∃o',s.heap.get? b=some o')/\b∉frs outer))->B.get? b=some o
def CX1(P:Program)(w:World):CXT:=λouter H s E e s'=>∃C ea H',e=.ref ea/\Fly P w outer H s C ea H' s'/\E (.ref C) none H'
theorem z3l{env:Env}{l:List Env}{L:Addr}(h:env.frame=some L):frs (env::l)=L::frs l:=by unfold frs;rw[_aG,h]
theorem HOk.cov{P:Program}{w:World}{H:Hp}{h h' B:Heap}(x:HOk P w H h)(c:∀b o,h.get? b=some o->H b≠none->B.get? b=some o)(k:B.StaysIn h'):HOk P w H h':=λa o e=> (x a o e).stay (λb u hb q=>by
  refine k b u (c b u q ?_);rcases hb with rfl | hb;·rw[e];simp
  ·rw[hb];simp) (λ_ q=>q) λ_ _ q=>q
theorem z5V{P:Program}{w:World}{H:Hp}{h:Heap}{a:Addr}{o:HO}(x:yF P w H h a o):∃ob,h.get? a=some ob:=by cases o with
 | lst xs=>obtain⟨_,_,_,_,e⟩:=x;exact⟨_,e⟩ | tup xs=>obtain⟨_,_,_,ob,e,_⟩:=x;exact⟨_,e⟩ | dK kvs=>obtain⟨_,_,_,_,o,_,_,e,_⟩:=x;exact⟨_,e⟩ | dT kvs=>obtain⟨_,_,_,_,o,_,_,e,_⟩:=x;exact⟨_,e⟩ | set S n=>obtain⟨o,_,_,_,e,_⟩:=x;exact⟨_,e⟩ | ins C dx fs=>obtain⟨_,_,_,e,_⟩:=x;exact⟨_,e⟩ | own y=>exact x | xd fs=>obtain⟨_,⟨_,_,_,e,_⟩,_⟩:=x;exact⟨_,e⟩ | rng lo hi=>obtain⟨_,_,_,e⟩:=x;exact⟨_,e⟩ | frz ob u=>obtain⟨e,_⟩:=x;exact⟨_,e⟩ | tbl ps=>exact⟨_,(show h.get? a=some _ from x)⟩ | met f y=>exact⟨_,(show h.get? a=some _ from x)⟩ | ext φ=>obtain⟨_,e,_⟩:=x;exact e
section
variable {X:Cx}{E:XK}{pins:List (Addr×Obj)}{O:L2.St}{H:Hp}{s:Shared}
theorem Inv.left{outer:List Env}{h' B:Heap}{C ea:Addr}{a0:Value}(I:Inv X pins O H s)(hex:X.ex=[])(ho:X.outer=outer)(fl:Heap.FlyingW B outer ea (.ref C) a0 h')(sm:s.heap.UpToSlots h') (c:∀b o,s.heap.get? b=some o->(H b≠none\/((∃o',X.s₀.heap.get? b=some o')/\b∉frs outer))->B.get? b=some o){g:Array GenState}{d:Drawn}{t:Nat}(hg:AllBare g): Fly X.prog X.w outer X.H₀ X.s₀ C ea H ⟨h',g,d,t,s.os⟩:=by
 subst ho;have k:=fl.1;refine⟨I.os,hg,⟨λb o e n nf ne=>?_,λb o e n hf ne=>?_,λb o e n ne=>?_,λb o e ne=>?_,I.base.tups,I.base.frzs,I.base.tbls⟩,HOk.cov I.hok (λb o e n=>c b o e (.inl n)) k,B,a0,fl,λb o e q=>?_⟩
 ·have e1:=I.base.keep b o e n nf (by rw[hex];exact ne);exact k b o (c b o e1 (.inr ⟨⟨o,e⟩,nf⟩))
 ·obtain⟨sl,e1⟩:=I.base.slot b o e n hf (by rw[hex];exact ne);obtain⟨_,o2,e2,hnf⟩:=I.funs.mem hf;rw[e1]at e2;cases e2;obtain⟨sl2,e3⟩:=sm b _ e1 hnf;exact⟨sl2,e3⟩
 ·exact I.base.free b o e n (by rw[hex];exact ne)
 ·by_cases hf:b∈frs X.outer
  ·obtain⟨_,o2,e2,hnf⟩:=I.funs.mem hf;obtain⟨sl2,e3⟩:=sm b _ e2 hnf;exact⟨_,e3⟩
  ·obtain⟨o1,e1⟩:=I.base.there b o e (by rw[hex];exact ne);exact⟨o1,k b o1 (c b o1 e1 (.inr ⟨⟨o,e⟩,hf⟩))⟩
 ·have back:∀o1,s.heap.get? b=some o1->B.get? b=some o:=λo1 e1=>by
   have e2:=c b o1 e1 (q.imp id λz=>z);have e3:h'.get? b=some o1:=k b o1 e2;have:h'.get? b=some o:=e;rw[e3]at this;cases this;exact e2
  rcases q with q | ⟨⟨o',e'⟩,nf⟩;·cases z:H b with
   | none=>exact absurd z q | some u=>
    obtain⟨o1,e1⟩:∃o1,s.heap.get? b=some o1:=by exact z5V (I.hok b u z)
    exact back o1 e1
  ·obtain⟨o1,e1⟩:=I.base.there b o' e' (by rw[hex];simp);exact back o1 e1
end
section
variable {P:Program}{w:World}{K:W.Frag}{mg:Str->Option Value}{base:Heap}{N:List Str}{qual:Str}{scope:Scope}{f:Addr}{cd:Value}{A:Around}{outer:List Env}{s:Shared}{H:Hp}{E:XK}
theorem we:(envOfC qual scope s.heap.objs.size f cd).frame=some s.heap.objs.size:=rfl
theorem zbR:Passes (CX1 P w) (jK (CX1 P w) P w K mg base N qual scope f cd A outer s H E) E:=by
 intro pins O H1 s1 e s' I h;obtain⟨C,ea,H',he,fl,hE⟩:=h;subst he;obtain⟨h2,g2,d2,t2,os2⟩:=s';have eos:os2=s1.os:=fl.os;subst eos;have I':=I.call (h':=h2) (g':=g2) (d':=d2) (t':=t2) (ch:=[]) fl.un fl.hok fl.bare (λb z=>absurd z (by simp));obtain⟨B,a0,fw,cov⟩:=fl.fly;refine wpAny_leaves_onW (base:=B) (outer:=outer) I.ok.frames we fw λh' fw' sm=>?_;refine⟨C,ea,H',rfl,Inv.left I' rfl rfl fw' sm (λb o e q=>cov b o e (q.imp id λz=>?_)) I'.bare,hE⟩;obtain⟨⟨o',e'⟩,nf⟩:=z;obtain⟨o1,e1⟩:=I.base.there b o' e' (by show b∉([]:List Addr);simp);refine⟨⟨o1,e1⟩,λz=>?_⟩;rw[show (jK (CX1 P w) P w K mg base N qual scope f cd A outer s H E).stack=envOfC qual scope s.heap.objs.size f cd::outer from rfl,z3l we]at z;rcases _l.mp z with z | z
 ·have:=_h e';rw[z]at this;exact absurd this (_V _)
 ·exact nf z
theorem za1 {pins:List (Addr×Obj)} {O:L2.St} {H1:Hp} {s1:Shared} {h':Heap} {e C:Addr} {args:List Value} (I:Inv (jK (CX1 P w) P w K mg base N qual scope f cd A outer s H E) pins O H1 s1) (hx:Heap.MadeExcOf s1.heap h' e (.ref C) args) (hE:E (.ref C) none H1): (jK (CX1 P w) P w K mg base N qual scope f cd A outer s H E).xe (.ref e) {s1 with heap:=h'}:=by
 have hin:∀env∈(envOfC qual scope s.heap.objs.size f cd::outer),∀b,env.frame=some b->b∈frs (envOfC qual scope s.heap.objs.size f cd::outer):=λenv he b hb=>_aL.mpr ⟨env,he,hb⟩;refine wpAny_leaves_madeW (base:=W.hideAll s1.heap (frs (envOfC qual scope s.heap.objs.size f cd::outer))) (h:=s1.heap) (outer:=outer) I.ok.frames we (λb o q=>W.of_hideAll _ q) (W.funFrames_hide I.stack hin) hx λh'' t fw tup bt sm=>?_;refine⟨C,e,H1,rfl,Inv.left I rfl rfl fw ((Heap.UpToSlots.of_keeps hx.keeps).trans sm) (λb o eb q=>W.hideAll_get _ eb λz=>?_) I.bare,hE⟩;rcases q with q | ⟨⟨o',e'⟩,nf⟩;·exact q (I.stkFree b z)
 ·rw[z3l we]at z;rcases _l.mp z with z | z
  ·have:=_h e';rw[show (jK (CX1 P w) P w K mg base N qual scope f cd A outer s H E).s₀=s from rfl]at this;rw[z]at this;exact absurd this (_V _)
  ·exact nf z
end
def z4p (X:Cx) (E:XK):Prop:=∀(pins:List (Addr×Obj)) (O:L2.St) (H1:Hp) (s1:Shared) (h':Heap) (e C:Addr) (args:List Value),Inv X pins O H1 s1->Heap.MadeExcOf s1.heap h' e (.ref C) args->E (.ref C) none H1->X.xe (.ref e) {s1 with heap:=h'}
def z8L(K:W.Frag)(mg:Str->Option Value)(x:Str):Prop:=∃C,mg x=some (.ref C)/\W.excIn K C bmV "ValueError.__new__"=true
theorem z5b{K:W.Frag}{h₀:Heap}{C:Addr}{bmB:List Value}{newId:String}(X:K.In h₀)(q:W.excIn K C bmB newId=true): ∃bm N nm q bs hdct sn sub ab col dd k0 k1 k2 k3 k5 mN,h₀.get? C=some (excClassObj nm q C N bs bm hdct sn sub ab col dd k0 k1 k2 k3 k5 newId)/\h₀.Ns N mN/\mN "__init__"=none/\OwnTail h₀ bmB bm:=by
 unfold W.excIn at q;split at q
 ·rename_i dd cd sl ho;split at q
  ·rename_i C' bm k0 k1 k2 k3 n k5 hm hs;simp only[_q,_X,Bool.not_eq_true']at q;obtain⟨⟨⟨⟨⟨rfl,rfl⟩,hdel⟩,ht⟩,hok⟩,hni⟩:=q;obtain⟨nm,bs,mro,ns,qn,hd,sn,sub,ab,col,del⟩:=cd;dsimp only at hm hdel hok hni;subst hm hdel;have hsl:sl=#[k0,k1,k2,k3,some (.builtin n),k5]:=by
    obtain⟨l⟩:=sl;simp only at hs;rw[hs]
   subst hsl;exact⟨bm,ns,nm,qn,bs,hd,sn,sub,ab,col,dd,k0,k1,k2,k3,k5,_,X _ _ ho,.of_isNs (W.isNs_of_in X hok),W.nsMap_none_of_in X hok hni,W.tail_of_in X ht⟩
  ·cases q
 ·cases q
section
variable {X:Cx}{E:XK}{pos:Pos}
def z3f(c:Str):FS:=λ_ s=>.ex c s
theorem z49 {x:Str} {np cpos p:Pos} {m:Str} {j:Nat} (hk:z8L X.K X.mg x) (hro:z4p X E) (hc:X.calm=true) (hg:Gl X x) (hd:(x==("__debug__":Str))=false:=by decide): RS X E (.Raise (some (.Call (.Name x np) [.Constant (.str m) j p] [] cpos)) none pos) (z3f x):=by
 intro pins s O H D I h;obtain⟨Y,Z,st,r,en,h⟩:=h;obtain⟨C,hm,hq⟩:=hk;have hE:E (.ref C) none H:=h H Y C (yQ.refl r) hm;obtain⟨tl,Nn,nm,q,bs,hdct,sn,sub,ab,col,dd,k0,k1,k2,k3,k5,mN,hC,hN,hni,T⟩:=z5b I.mod.kin hq;refine wpAny_Raise_call_subT (C:=C) (nm:=nm) (q:=q) (N:=Nn) (bs:=bs) (bm:=tl) (hdct:=hdct) (sn:=sn) (sub:=sub) (ab:=ab) (col:=col) (dd:=dd) (k0:=k0) (k1:=k1) (k2:=k2) (k3:=k3) (k5:=k5) _aD (mN:=mN) (T.hasType _aD.hasBase) (I.ok.hd hc) rfl hni (ke I hg hm ⟨rfl,?_⟩ hd);refine Calls.evalArgs_plain (thn (yC (X:=X) (z76 (X:=X)) (vH (X:=X)) rfl cpos pins s O H (λvs H1=>vs=[.str m]/\H1=H) I ⟨rfl,rfl⟩) λus s2 h2=>?_);obtain⟨vs,H1,I1,r1,e1,e2⟩:=h2;subst e1 e2;obtain⟨u,rfl,ru⟩:=r1.one;exact⟨rfl,by show (1:Nat)<=sizeLine;decide,I1.bk _ _ hC,hN.keeps I1.bk,T.keeps I1.bk,λh' e mk=>hro pins O _ s2 h' e C [u] I1 mk hE⟩
end
def z2z(N:List Str)(n:Nat)(fs:FS):Mir:=λds s=>if ds.length=n then (match fs (zt N ds) s with
 | .ok (.rt d) s'=>.ok d s' | .ok (.nx _) s'=>.ok .non s' | .ex c s'=>.ex c s' | _=>.no) else .no
section
variable {P:Program}{w:World}{K:W.Frag}{mg:Str->Option Value}{base:Heap}
theorem z9K{X:Cx}{E:XK}:Passes CX0 X E:=λ_ _ _ _ _ _ _ h=>h.elim
theorem z2b{x qual:Str}{st:Stmt}{f:Addr}{fd:FuncData}{N ps:List Str}{k n:Nat}{fs:FS}(F:Fun K x qual st f fd)(hm:mg x=some (.ref f))(hb:Binds K fd ps [])(S:zC N ps (zh st))(hn:ps.length=n) (body:∀(cdv:Value)(A:Around)(outer:List Env)(s:Shared)(H:Hp)(E:XK),qO k (A.deeper (envOfC qual (zh st) s.heap.objs.size f cdv))->(jK (CX1 P w) P w K mg base N qual (zh st) f cdv A outer s H E).calm=true-> RSs (jK (CX1 P w) P w K mg base N qual (zh st) f cdv A outer s H E) E (xz st) fs):Has P w K mg base (CX1 P w) x (k+1) (z2z N n fs):=by
 subst hn;obtain⟨oc,od,kV,doc,pm,an,cdv,ct,osl,rfl,lk,hcd⟩:=F.ex;refine⟨f,_,ps,z93 lk hcd S (λvs H Q E h=>?_) (λA outer s H vs Q E hr h=>?_),hb,F.kp,hm⟩
 ·obtain⟨Y,s,ds,_,dn,h⟩:=h;unfold z2z at h;split at h;·rename_i e;rw[dn.length];exact e
  ·exact h.elim
 ·obtain⟨Y,st0,ds,r,dn,h⟩:=h;refine⟨_,body cdv A outer s H E hr (by show A.handled.isNone=true;rw[show A.handled=none from hr.hd];rfl),Y,zt N ds,st0,r,vW dn,?_⟩;unfold z2z at h;split at h
  ·split at h
   ·rename_i d s' e;rw[e];intro fv H' Y' stp fd;cases fv with
    | rt v=>exact h v H' Y' stp fd | _=>exact (show False from fd).elim
   ·rename_i Z s' e;rw[e];intro fv H' Y' stp fd;cases fv with
    | nx v=>exact h .non H' Y' stp (by simp[Den]) | _=>exact (show False from fd).elim
   ·rename_i c s' e;rw[e];exact h
   ·exact h.elim
  ·exact h.elim
def zdy(M:Mir):Mir:=λds s=>match M ds s with | .ex _ _=>.no | r=>r
end
def xH(f:FS):FS:=λZ s=>match f Z s with | .ex _ _=>.no | r=>r
theorem z2Y{X:Cx}{E:XK}{st:Stmt}{f:FS}(h:RS X.nox E0 st f):RS X E st (xH f):=λpins s O H D I hw=>by
 obtain⟨Y,Z,st0,r,en,q⟩:=hw;have q':okR (gm X) E0 H Y (FlD (gm X)) (f Z st0) (z0q D):=by
  unfold xH at q;cases e:f Z st0 with
  | ok d s'=>rw[e]at q;exact q | ex c s'=>rw[e]at q;exact q.elim | no=>rw[e]at q;exact q.elim
 exact _J (h pins s O H D (I.wish _) ⟨Y,Z,st0,r,en,q'⟩) (λ_ _ q=>q.unwish) λ_ _ z=>False.elim z
@[simp] theorem zb0 (c:Str)(Z:Ev)(s:Sto):z3f c Z s=.ex c s:=id rfl
theorem z31{P:Program}{w:World}{K:W.Frag}{mg:Str->Option Value}{base:Heap}{N:List Str}{qual:Str}{scope:Scope}{f:Addr}{cd:Value}{A:Around}{outer:List Env}{s:Shared}{H:Hp}{E:XK}: z4p (jK (CX1 P w) P w K mg base N qual scope f cd A outer s H E) E:=λ_ _ _ _ _ _ _ _ I hx hE=>za1 I hx hE
end Dd
namespace PySem
open PySem.Sem (wp)
section
variable {M:Model}{A:Around}{E:Value->Shared->Prop}
theorem vj{h:Heap}{g:Array GenState}{d:Drawn}{t:Nat}{os:OsState}{e C D:Addr}{oe:Obj}{Q:Bool->Shared->Prop} {nm q:Str}{N:Addr}{bs bm:List Value}{hdct:Bool}{sn:List Str}{sub:List Value}{ab:Bool}{col:Option Bool}{dd:Option Addr}{k0 k1 k2 k3 k5:Option Value}{newId:String} {nm' q':Str}{N':Addr}{bs' bm':List Value}{hdct':Bool}{sn':List Str}{sub':List Value}{ab':Bool}{col':Option Bool}{dd':Option Addr}{k0' k1' k2' k3' k5':Option Value}{newId':String} (hC:h.get? C=some (excClassObj nm q C N bs bm hdct sn sub ab col dd k0 k1 k2 k3 k5 newId))(hD:h.get? D=some (excClassObj nm' q' D N' bs' bm' hdct' sn' sub' ab' col' dd' k0' k1' k2' k3' k5' newId')) (he:h.get? e=some oe)(hcls:oe.cls=.ref C)(hbase:bm'.contains (.type "BaseException")=true)(hsub:(Value.ref C::bm).contains (.ref D)=true) (hq:Q true ⟨h,g,d,t,os⟩):wpAny M A (excMatches (.ref e) (.ref D)) Q E ⟨h,g,d,t,os⟩:=by
 have hcB:(Value.ref D::bm').contains (.type "BaseException")=true:=by rw[List.contains_cons,hbase,Bool.or_true]
 have f:=tc_notTuple;unfold excMatches;repeat (first | (with_reducible refine _U he ?_;rw[hcls]) | with_reducible refine _U hD ?_ | with_reducible refine _U hC ?_ | (with_reducible refine wpAny_isSubtype_exc hD ?_;rw[hcB]) | (with_reducible refine wpAny_isSubtype_exc hC ?_;rw[hsub]) | wp_step)
 exact hq
end
end PySem
namespace Dd
open L2
theorem _root_.L2.Inv.locals{X:Cx}{pins:List (Addr×Obj)}{O:L2.St}{H:Hp}{s:Shared}{h':Heap}{m':Str->Option Value}{t:Nat}(I:L2.Inv X pins O H s)(hn:h'.Ns X.env.locals m')(sb:Heap.SameBut X.env.locals s.heap h'): L2.Inv X pins (List.replicate X.N.length none) H {s with heap:=h',toks:=t}:=by
 have k:∀b o,b≠X.env.locals->s.heap.get? b=some o->h'.get? b=some o:=λb o n e=>sb.extBut _ _ n e;have neL:∀b o,X.s₀.heap.get? b=some o->b≠X.env.locals:=λb o e=>_u (_e (_h e) I.ok.above);refine⟨I.ok,I.os,I.bare,⟨λb o e n nf ne=>k b o (neL b o e) (I.base.keep b o e n nf ne),λb o e n hf ne=>?_,I.base.free,λb o e ne=>?_,I.base.tups,I.base.frzs,I.base.tbls⟩,⟨m',hn,λi x v h1 h2=>?_⟩,λx c e=>?_,I.free,I.freeC,λp hp=>?_,λa o e=>?_,by simp⟩
 ·obtain⟨sl,e1⟩:=I.base.slot b o e n hf ne;exact⟨sl,k b _ (neL b o e) e1⟩
 ·obtain⟨o1,e1⟩:=I.base.there b o e ne;exact⟨o1,k b _ (neL b o e) e1⟩
 ·rw[_as]at h2;split at h2<;>cases h2
 ·obtain⟨v,o,ho,hd⟩:=I.cell x c e;exact⟨v,o,k c o (I.cne x c e) ho,hd⟩
 ·obtain⟨q1,q2,q3,q4⟩:=I.pin p hp;exact⟨k p.1 p.2 q3 q1,q2,q3,q4⟩
 ·refine (I.hok a o e).stay (λb u hb q=>k b u (λz=>?_) q) (λ_ q=>q) λ_ _ q=>q;have:=I.free;rw[<- z]at this;rcases hb with rfl | hb;·rw[e]at this;cases this
  ·rw[hb]at this;cases this
abbrev Cx.at_(X:Cx)(pn:List (Addr×Obj))(xe:Value->Shared->Prop):Cx:={X with pn:=pn,xe:=xe}
abbrev Cx.mk_(X:Cx)(e:Addr)(pn:List (Addr×Obj)):Cx:={X with A:=X.A.mark (some (.ref e)),calm:=false,pn:=pn,xe:=λ_ _=>False}
theorem Cx.ok_at{X:Cx}(ok:X.Ok){pn:List (Addr×Obj)}{xe:Value->Shared->Prop}:(Cx.at_ X pn xe).Ok:= ⟨ok.mod,ok.kind,ok.glob,ok.blt,ok.above,ok.inj,ok.has,ok.cab,ok.hd,ok.frames,ok.stk,ok.exf,ok.bs,ok.bsz,ok.noex,ok.exfs,ok.funs,ok.frf⟩
theorem Cx.ok_of{X:Cx}{pn:List (Addr×Obj)}{xe:Value->Shared->Prop}(ok:(Cx.at_ X pn xe).Ok):X.Ok:= ⟨ok.mod,ok.kind,ok.glob,ok.blt,ok.above,ok.inj,ok.has,ok.cab,ok.hd,ok.frames,ok.stk,ok.exf,ok.bs,ok.bsz,ok.noex,ok.exfs,ok.funs,ok.frf⟩
theorem Cx.ok_mk{X:Cx}(ok:X.Ok){e:Addr}{pn:List (Addr×Obj)}:(Cx.mk_ X e pn).Ok:= ⟨ok.mod,ok.kind,ok.glob,ok.blt,ok.above,ok.inj,ok.has,ok.cab,(λh=>by cases h),ok.frames,ok.stk,ok.exf,ok.bs,ok.bsz,ok.noex,ok.exfs,ok.funs,ok.frf⟩
section
variable {X:Cx}{pins:List (Addr×Obj)}{O:L2.St}{H:Hp}{s:Shared}
theorem _root_.L2.Inv.at_(I:L2.Inv X pins O H s){xe:Value->Shared->Prop}:L2.Inv (Cx.at_ X (X.pn++pins) xe) [] O H s:= ⟨Cx.ok_at I.ok,I.os,I.bare,I.base,I.loc,I.cell,I.free,I.freeC,λp hp=>I.pin p (by simpa using hp),I.hok,I.len⟩
theorem _root_.L2.Inv.of_at{xe:Value->Shared->Prop}{pins':List (Addr×Obj)}(I:L2.Inv (Cx.at_ X (X.pn++pins) xe) pins' O H s):L2.Inv X pins O H s:= ⟨Cx.ok_of I.ok,I.os,I.bare,I.base,I.loc,I.cell,I.free,I.freeC,λp hp=>I.pin p (_aq _ hp),I.hok,I.len⟩
theorem _root_.L2.Inv.mk_(I:L2.Inv X pins O H s){e:Addr}:L2.Inv (Cx.mk_ X e (X.pn++pins)) [] O H s:= ⟨Cx.ok_mk I.ok,I.os,I.bare,I.base,I.loc,I.cell,I.free,I.freeC,λp hp=>I.pin p (by simpa using hp),I.hok,I.len⟩
theorem _root_.L2.Inv.of_mk{e:Addr}{pins':List (Addr×Obj)}(ok:X.Ok)(I:L2.Inv (Cx.mk_ X e (X.pn++pins)) pins' O H s):L2.Inv X pins O H s:= ⟨ok,I.os,I.bare,I.base,I.loc,I.cell,I.free,I.freeC,λp hp=>I.pin p (_aq _ hp),I.hok,I.len⟩
theorem Fly.land{P:Program}{w:World}{outer:List Env}{H H':Hp}{s s':Shared}{C ea:Addr}{h5 B:Heap}{a0:Value}(un:Un (frs outer) [] H H' s.heap s'.heap)(hok:HOk P w H' s'.heap)(fw:Heap.FlyingW B outer ea (.ref C) a0 s'.heap) (cov:∀b o,s'.heap.get? b=some o->(H' b≠none\/((∃o',s.heap.get? b=some o')/\b∉frs outer))->B.get? b=some o)(fw5:Heap.FlyingW B outer ea (.ref C) a0 h5)(sm:s'.heap.UpToSlots h5): s.heap.get? ea=none/\H' ea=none/\Un (frs outer) [] H (upd H' ea (z5R C ea)) s.heap h5/\HOk P w (upd H' ea (z5R C ea)) h5/\∃oe,h5.get? ea=some oe/\oe.cls=.ref C:=by
 have k:=fw5.1;obtain⟨oe,vs,T,oT,ts,he,⟨hcls,_⟩,hd,_⟩:=fw5.2.2.2;obtain⟨oe',vs',_,_,_,he',_,hd',_⟩:=fw.2.2.2;have new:s.heap.get? ea=none:=by cases z:s.heap.get? ea with
  | none=>rfl | some o=>
   exfalso;obtain⟨o1,e1⟩:=un.there ea o z (by simp);by_cases hf:ea∈frs outer
   ·obtain⟨_,o2,e2,hnf⟩:=fw.2.2.1.mem hf;rw[he']at e2;cases e2;exact hnf _ hd'
   ·have:=cov ea o1 e1 (.inr ⟨⟨o,z⟩,hf⟩);rw[fw.2.1]at this;cases this
 have hn:H' ea=none:=by cases z:H' ea with
  | none=>rfl | some u=>
   exfalso;have:=cov ea _ he' (.inl (by rw[z];simp));rw[fw.2.1]at this;cases this
 have ne:∀b o,s.heap.get? b=some o->b≠ea:=λb o e z=>by rw[z,new]at e;cases e
 have neH:∀b u,H' b=some u->b≠ea:=λb u e z=>by rw[z,hn]at e;cases e
 refine⟨new,hn,⟨λb o e n nf _=>?_,λb o e n hf _=>?_,λb o e n _=>?_,λb o e _=>?_,λb xs e=>?_,λb o u e=>?_,λb ps e=>?_⟩,λa o e=>?_,oe,he,hcls⟩
 ·have e1:=un.keep b o e n nf (by simp);exact k b o (cov b o e1 (.inr ⟨⟨o,e⟩,nf⟩))
 ·obtain⟨sl,e1⟩:=un.slot b o e n hf (by simp);obtain⟨_,o2,e2,hnf⟩:=fw.2.2.1.mem hf;rw[e1]at e2;cases e2;obtain⟨sl2,e3⟩:=sm b _ e1 hnf;exact⟨sl2,e3⟩
 ·rw[zu (ne b o e)];exact un.free b o e n (by simp)
 ·by_cases hf:b∈frs outer
  ·obtain⟨_,o2,e2,hnf⟩:=fw.2.2.1.mem hf;obtain⟨sl2,e3⟩:=sm b _ e2 hnf;exact⟨_,e3⟩
  ·obtain⟨o1,e1⟩:=un.there b o e (by simp);exact⟨o1,k b o1 (cov b o1 e1 (.inr ⟨⟨o,e⟩,hf⟩))⟩
 ·have q:=un.tups b xs e;rw[zu (neH b _ q)];exact q
 ·have q:=un.frzs b o u e;rw[zu (neH b _ q)];exact q
 ·obtain⟨more,q⟩:=un.tbls b ps e;exact⟨more,by rw[zu (neH b _ q)];exact q⟩
 ·by_cases z:a=ea
  ·subst z;rw[ya]at e;cases e;exact⟨⟨oe,vs,he,hcls,hd⟩,⟨oe,he⟩,λh1 h2 ⟨o,ws,q1,q2,q3⟩ st=>⟨o,ws,st o q1,q2,q3⟩⟩
  ·rw[zu z]at e;refine (HOk.cov hok (λb o e n=>cov b o e (.inl n)) k a o e).stay (λb u _ q=>q) (λb q=>?_) λb xs q=>?_;·rw[zu (neH b _ q)];exact q
   ·rw[zu (neH b _ q)];exact q
end
def zaW(K:W.Frag)(mg:Str->Option Value)(x y:Str):Prop:=∃C D,mg x=some (.ref C)/\mg y=some (.ref D)/\W.excIn K C bmV "ValueError.__new__"=true/\W.excIn K D bmV "ValueError.__new__"=true/\ ∀h₀:Heap,K.In h₀->∃bm N nm q bs hdct sn sub ab col dd k0 k1 k2 k3 k5,h₀.get? C=some (excClassObj nm q C N bs bm hdct sn sub ab col dd k0 k1 k2 k3 k5 "ValueError.__new__")/\(Value.ref C::bm).contains (.ref D)=true
section
variable {prog:Program}{w:World}{A:Around}{E:Value->Shared->Prop}{s:Shared}{env:Env}
theorem jy {e C D:Addr} {t:Expr} {n:Str} {b₀:Stmt} {suite:List Stmt} {pos:Pos} {jr:List ExceptHandler} {Q:Flow->Shared->Prop} (h:wpAny (model prog w) (A.mark (some (.ref e))) (eval t env) (λc s₁=>c=.ref D/\ (∃bm N nm q bs hdct sn sub ab col dd k0 k1 k2 k3 k5 newId,s₁.heap.get? C=some (excClassObj nm q C N bs bm hdct sn sub ab col dd k0 k1 k2 k3 k5 newId)/\(Value.ref C::bm).contains (.ref D)=true)/\ (∃bm N nm q bs hdct sn sub ab col dd k0 k1 k2 k3 k5 newId,s₁.heap.get? D=some (excClassObj nm q D N bs bm hdct sn sub ab col dd k0 k1 k2 k3 k5 newId)/\bm.contains (.type "BaseException")=true)/\(∃oe,s₁.heap.get? e=some oe/\oe.cls=.ref C)/\ wpAny (model prog w) (A.mark (some (.ref e))) (setFlight (.ref e) none) (λ_ s₂=> wpAny (model prog w) (A.mark (some (.ref e))) (storeName env n (.ref e)) (λ_ s₃=> wpAny (model prog w) (A.mark (some (.ref e))) (execs (b₀::suite) env) (λf s₄=>wpAny (model prog w) A (do bindName env n .none;unbindBehindTheSuite env n pos) (λ_ s₅=>Q f s₅) E s₄) (AsSuiteRaised (model prog w) (A.mark (some (.ref e))) env n pos (notedBy (model prog w) (A.mark (some (.ref e))) env (cameBackBy (model prog w) A env E))) s₃) (notedBy (model prog w) (A.mark (some (.ref e))) env (cameBackBy (model prog w) A env E)) s₂) (notedBy (model prog w) (A.mark (some (.ref e))) env (cameBackBy (model prog w) A env E)) s₁) (notedBy (model prog w) (A.mark (some (.ref e))) env (cameBackBy (model prog w) A env E)) s): wpAny (model prog w) A (handleBy (.ref e) env (.ExceptHandler (some t) (some n) (b₀::suite) pos::jr)) Q E s:=by
 refine wpAny_handleBy_cons (codeAny_handlers_test (_J h (λc s₁ h₁=>?_) λ_ _ y=>y)) (by intro q;cases q);obtain⟨rfl,⟨bm,N,nm,q,bs,hdct,sn,sub,ab,col,dd,k0,k1,k2,k3,k5,newId,hC,hsub⟩,⟨bm',N',nm',q',bs',hdct',sn',sub',ab',col',dd',k0',k1',k2',k3',k5',newId',hD,hbase⟩,⟨oe,he,hcls⟩,hk⟩:=h₁;obtain⟨hh,g,d,tk,os⟩:=s₁;exact vj hC hD he hcls hbase hsub (codeAny_handlers_suite_as hk)
end
def z9Z(cs:List Str)(fb:FS)(j:Nat)(fh:FS):FS:=λZ s=>match fb Z s with
 | .ex c s1=>if c∈cs then (match fh ((List.replicate Z.length none).set j (some (.exc c))) s1 with
  | .ok (.rt d) s2=>.ok (.rt d) s2 | _=>.no) else .no | .ok (.rt d) s1=>.ok (.rt d) s1 | _=>.no
section
variable {X:Cx}{E:XK}{pos hpos np:Pos}
theorem zbI {cs:List Str} {y n:Str} {body:List Stmt} {b₀:Stmt} {suite:List Stmt} {j:Nat} {fb fh:FS} (hst:X.stack=X.env::X.outer) (hfr:X.env.frame=some X.env.locals) (hex:X.ex=[]) (hcs:∀c∈cs,zaW X.K X.mg c y) (hg:Gl X y) (hN:X.N.Nodup) (hj:X.N[j]? = some n) (hloc:X.env.scope.names.lookup n=some .local) (hb:∀(pn:List (Addr×Obj)) (xe:Value->Shared->Prop) (E1:XK),Passes (CX1 X.prog X.w) (Cx.at_ X pn xe) E1->RSs (Cx.at_ X pn xe) E1 body fb) (hh:∀(e:Addr) (pn:List (Addr×Obj)),RSs (Cx.mk_ X e pn) E0 (b₀::suite) fh) (hdb:(y==("__debug__":Str))=false:=by decide): RS X E (.Try body [.ExceptHandler (some (.Name y np)) (some n) (b₀::suite) hpos] [] [] pos) (z9Z cs fb j fh):=by
 intro pins s O H D I hw;obtain⟨Y,Z,st0,r,en,h⟩:=hw;have hlen:Z.length=X.N.length:=by rw[en.len,I.len]
 refine wpAny_Try_except ?_;generalize hEb:(λ(e:Value) (s₁:Shared)=>wpAny (model X.prog X.w) X.A (noteFrame e X.env) (λ_ s₂=>wpAny (model X.prog X.w) X.A (setFlight e none) (λ_ s₃=>wpAny (model X.prog X.w) X.A (handleBy e X.env [.ExceptHandler (some (.Name y np)) (some n) (b₀::suite) hpos]) (SP X pins D) X.xe s₃) X.xe s₂) X.xe s₁)=Eb;let E1:XK:=λv _ H'=>∃c Y' st' C d s2,v=.ref C/\c∈cs/\X.mg c=some (.ref C)/\yQ (gm X) H Y H' Y' st'/\fh ((List.replicate Z.length none).set j (some (.exc c))) st'=.ok (.rt d) s2/\okR (gm X) E H Y (FlD (gm X)) (.ok (.rt d) s2) (z0q D);have pass:Passes (CX1 X.prog X.w) (Cx.at_ X (X.pn++pins) Eb) E1:=by
  intro pins' O' H1 s1 e s' I1 hcx;obtain⟨C,ea,H',he,fl,hE⟩:=hcx;subst he;obtain⟨c,Y',st',C',d,s2,eC,hcm,hmc,stp,efh,ok⟩:=hE;cases eC;have J1:=I1.of_at;obtain⟨B,a0,fw,cov⟩:=fl.fly;have fw:Heap.FlyingW B (X.env::X.outer) ea (.ref C) a0 s'.heap:=by rw[<- hst];exact fw
  have un:Un (frs (X.env::X.outer)) [] H1 H' s1.heap s'.heap:=by rw[<- hst];exact fl.un
  have cov:∀b o,s'.heap.get? b=some o->(H' b≠none\/((∃o',s1.heap.get? b=some o')/\b∉frs (X.env::X.outer)))->B.get? b=some o:=by rw[<- hst];exact cov
  have land:∀h5,Heap.FlyingW B (X.env::X.outer) ea (.ref C) a0 h5->s'.heap.UpToSlots h5->L2.Inv X pins O' (upd H' ea (z5R C ea)) {s' with heap:=h5}/\H' ea=none/\∃oe,h5.get? ea=some oe/\oe.cls=.ref C:=λh5 fw5 sm=>by
   obtain⟨_,hn,un5,hok5,oe⟩:=Fly.land un fl.hok fw cov fw5 sm;exact⟨J1.call' (s':={s' with heap:=h5}) (ch:=[]) fl.os (by rw[hst];exact un5) hok5 fl.bare (λb z=>absurd z (by simp)),hn,oe⟩
  rw[<- hEb];have hfrm:X.A.frames=some (X.env::X.outer):=by rw[<- hst];exact J1.ok.frames
  show wpAny (model X.prog X.w) X.A (noteFrame (.ref ea) X.env) _ _ s';refine wpAny_looks_onW (base:=B) hfrm hfr fw λh4 held sm4=>?_;refine wpAny_landsW held λh5 fw5 sm5=>?_;obtain⟨I5,hn5,oe5⟩:=land h5 fw5 (sm4.trans sm5);obtain⟨C2,D2,hm2,hmy,q1,q2,hsub⟩:=hcs c hcm;rw[hmc]at hm2;cases hm2;refine jy (C:=C) (D:=D2) (ke (X:=Cx.mk_ X ea (X.pn++pins)) I5.mk_ hg hmy ⟨rfl,?_,?_,oe5,?_⟩ hdb)
  ·obtain⟨bm,N,nm,q,bs,hdct,sn,sub,ab,col,dd,k0,k1,k2,k3,k5,hC,hs⟩:=hsub _ I5.kIn;exact⟨bm,N,nm,q,bs,hdct,sn,sub,ab,col,dd,k0,k1,k2,k3,k5,_,hC,hs⟩
  ·obtain⟨bm,N,nm,q,bs,hdct,sn,sub,ab,col,dd,k0,k1,k2,k3,k5,mN,hC,hNs,hni,T⟩:=z5b I5.kIn q2;exact⟨bm,N,nm,q,bs,hdct,sn,sub,ab,col,dd,k0,k1,k2,k3,k5,_,hC,T.hasType _aD.hasBase⟩
  ·refine lands_againW fw5 λh6 fw6 sm6=>?_;obtain⟨I6,hn6,oe6⟩:=land h6 fw6 ((sm4.trans sm5).trans sm6);refine z0w (X:=Cx.mk_ X ea (X.pn++pins)) I6.mk_ hN hj (.inl hloc) (show yP (.ref ea) (.ref ea) from rfl) (λs7 I7=>?_) (.inr hloc);have stl:yQ (gm X) H' Y' (upd H' ea (z5R C ea)) Y' st':=yQ.lay stp.rep hn6 (by intro vs z;cases z);have stl2:=stp.trans stl;have enh:wQ (gm X) (upd H' ea (z5R C ea)) Y' ((List.replicate Z.length none).set j (some (.exc c))) (O'.set j (some (.ref ea))):=by
    refine⟨by rw[List.length_set,List.length_replicate,List.length_set,hlen];exact J1.len.symm,λi d' hi=>?_⟩;by_cases z:j=i
    ·subst z;have hjl:j<(List.replicate Z.length (none:Option Dd.D)).length:=by
      have:=(_b.mp hi).1;simpa using this
     rw[_w hjl]at hi;cases hi;refine⟨.ref ea,by rw[_w (by rw[J1.len,<- hlen];simpa using hjl)],?_⟩;simp only[Den];exact⟨ea,C,rfl,hmc,ya⟩
    ·rw[_y z,_as]at hi;split at hi<;>cases hi
   have run:=hh ea (X.pn++pins) [] s7 (O'.set j (some (.ref ea))) (upd H' ea (z5R C ea)) {nx:=λ_ _=>False,rt:=D.rt} I7 ⟨Y',_,st',stl2.rep,enh,by
    rw[efh];intro fv H2 Y2 stp2 fd;cases fv with
    | rt v=>exact ok (.rt v) H2 Y2 (stl2.trans stp2) fd | _=>exact (show False from fd).elim⟩;refine _J run (λfl s8 q8=>?_) λ_ _ z=>z.elim;cases fl with
   | ret u=>
    obtain⟨v,O8,H8,I8,rv,q8⟩:=q8;have J8:=I8.of_mk J1.ok;obtain⟨m,hn,_⟩:=J8.loc;refine wpAny_nameGoes (env:=X.env) hloc hn (by rw[J1.ok.kind];rfl) λh9 m9 hn9 sb9=>?_;exact⟨v,_,H8,J8.locals hn9 sb9,rv,q8⟩ | next=>obtain⟨_,_,_,z⟩:=q8;exact z.elim | brk=>obtain⟨_,_,_,z⟩:=q8;exact z.elim | cont=>obtain⟨_,_,_,z⟩:=q8;exact z.elim
 have run:=hb (X.pn++pins) Eb E1 pass [] s O H {nx:=λ_ _=>False,rt:=D.rt} I.at_ ⟨Y,Z,st0,r,en,?_⟩
 ·refine _J run (λfl s1 q1=>?_) λ_ _ z=>z;cases fl with
  | ret u=>
   obtain⟨v,O8,H8,I8,rv,q8⟩:=q1;exact⟨v,O8,H8,I8.of_at,rv,q8⟩ | next=>obtain⟨_,_,_,z⟩:=q1;exact z.elim | brk=>obtain⟨_,_,_,z⟩:=q1;exact z.elim | cont=>obtain⟨_,_,_,z⟩:=q1;exact z.elim
 ·unfold z9Z at h;cases e:fb Z st0 with
  | no=>rw[e]at h;exact h.elim | ok fl s1=>
   rw[e]at h;cases fl with
   | rt d=>
    intro fv H2 Y2 stp2 fd;cases fv with
    | rt v=>exact h (.rt v) H2 Y2 stp2 fd | _=>exact (show False from fd).elim
   | _=>exact h.elim
  | ex c s1=>
   rw[e]at h;intro H' Y' C stp hmc;simp only at h;split at h
   ·rename_i hcm;cases e2:fh ((List.replicate Z.length none).set j (some (.exc c))) s1 with
    | no=>rw[e2]at h;exact h.elim | ex _ _=>rw[e2]at h;exact h.elim | ok fl s2=>
     rw[e2]at h;cases fl with
     | rt d=>exact⟨c,Y',s1,C,d,s2,rfl,hcm,hmc,stp,e2,h⟩ | _=>exact h.elim
   ·exact h.elim
end
end Dd
namespace PySem
open PySem.Sem (wp)
open PySem.W
structure ExcCls(K:Frag)(C:Addr):Prop where
 ga:findIn K (.ref C) "__getattribute__"=some (some (.builtin "BaseException.__getattribute__"))
 gh:findIn K (.ref C) "__getattr__"=some none
 cl:findIn K (.ref C) "__class__"=some (some (.builtin "object.__class__"))
 ob:mroIn K C (.type "object")=some true
 be:mroIn K C (.type "BaseException")=some true
 ty:∃d cd sl,K.lookup C=some ⟨.type "type",d,.cls cd,sl⟩
section
variable {prog:Program}{w:World}{A:Around}{E:Value->Shared->Prop}{K:Frag}{h:Heap}{g:Array GenState}{d:Drawn}{t:Nat}{os:OsState}{a C:Addr}{o:Obj}
theorem zaz{M:Model}(hx:h.get? a=some o)(hc:o.cls=.ref C):Looks M h (typeOf (.ref a)) (.ref C):=by
 intro A' Q' E' s' k q;unfold typeOf;refine _a (wpAny_loadPart (k _ _ hx) ?_);rw[hc];exact _k q
theorem z0t{R:Result->Shared->Prop}(X:K.In h)(Fx:ExcCls K C)(hx:h.get? a=some o)(hc:o.cls=.ref C)(hq:R (.ok (.ret (.ref C))) ⟨h,g,d,t,os⟩): codeAny (model prog w) A (.call (.builtin "getset_descriptor.__get__") ⟨[.builtin "object.__class__",.ref a,.ref C],[]⟩) R ⟨h,g,d,t,os⟩:=by
 have hT5:(⟨h,g,d,t,os⟩:Shared).TypeIs (.builtin "object.__class__") "getset_descriptor":=_aW;have L1:=looks_mroIn (M:=model prog w) X Fx.ob;rw[<- F.owner_object_class]at L1;refine codeAny_call_builtin F.slot_gs_get.plain F.entry_gs_get (F.slot_gs_get.check _ _ _ _ _ _ _ _ hT5 (F.args_gs_get _ _ _) ?_);repeat (any_goals (first | assumption | (with_reducible refine _U hx ?_;rw[hc]) | (with_reducible refine L1.at ?_) | wp_step))
 refine⟨Code.quiet_builtin _ (by decide +kernel),codeAny_builtin F.entry_object_class ?_⟩;repeat (any_goals (first | assumption | (with_reducible refine _U hx ?_;rw[hc]) | wp_step))
theorem jm{tk:Tok}{Q:Fin->Shared->Prop}(X:K.In h)(Fx:ExcCls K C)(hx:h.get? a=some o)(hc:o.cls=.ref C)(hq:Q (.done (.ret (.ref C))) ⟨h,g,d,t,os⟩): wpAny (model prog w) A (Builtin.«object.__getattribute__» ⟨[.ref a,.str "__class__" tk],[]⟩) Q E ⟨h,g,d,t,os⟩:=by
 have hT5:(⟨h,g,d,t,os⟩:Shared).TypeIs (.builtin "object.__class__") "getset_descriptor":=_aW;have L4:=looks_findIn (M:=model prog w) X Fx.cl;have f5:=_aW;have f6:=F.slot_gs_get.lookup;have f7:=F.slot_gs_set.lookup;repeat (any_goals (first | assumption | (with_reducible refine _U hx ?_;rw[hc]) | (with_reducible refine L4.at ?_) | wp_step))
 refine z0t X Fx hx hc ?_;repeat (any_goals (first | assumption | wp_step))
theorem z1X{M:Model}{nameV:Value}{Q:Unit->Shared->Prop}(X:K.In h)(Fx:ExcCls K C)(hx:h.get? a=some o)(hc:o.cls=.ref C)(hq:Q () ⟨h,g,d,t,os⟩):wpAny M A (checkBuiltinCall "BaseException.__getattribute__" ⟨[.ref a,nameV],[]⟩) Q E ⟨h,g,d,t,os⟩:=by
 have hk:builtinKind "BaseException.__getattribute__"=some .slot:=by decide +kernel
 have hsplit:splitId "BaseException.__getattribute__"=some ("BaseException","__getattribute__"):=by decide +kernel
 have L1:=looks_mroIn (M:=M) X Fx.be;have ha:=F.args_bexc_ga (.ref a) nameV;simp only[checkBuiltinCall,hk,hsplit];refine _a ?_
 ·unfold isInstance;repeat (first | (with_reducible refine _U hx ?_;rw[hc]) | (with_reducible refine L1.at ?_) | wp_step)
  exact hq
theorem kj{tk:Tok}{R:Result->Shared->Prop}(X:K.In h)(Fx:ExcCls K C)(hx:h.get? a=some o)(hc:o.cls=.ref C)(hq:R (.ok (.ret (.ref C))) ⟨h,g,d,t,os⟩): codeAny (model prog w) A (.call (.builtin "BaseException.__getattribute__") ⟨[.ref a,.str "__class__" tk],[]⟩) R ⟨h,g,d,t,os⟩:= codeAny_call_builtin F.attrBase_ValueError.ga.plain F.entry_bexc_ga (z1X X Fx hx hc (jm X Fx hx hc hq))
theorem z1i{tk:Tok}{fill expr:Bool}{Q:Value->Shared->Prop}(X:K.In h)(Fx:ExcCls K C)(hx:h.get? a=some o)(hc:o.cls=.ref C)(hq:Q (.ref C) ⟨h,g,d,t,os⟩): wpAny (model prog w) A (getAttrBy (.ref a) (.str "__class__" tk) fill expr) Q E ⟨h,g,d,t,os⟩:=by
 have f3:=F.attrBase_ValueError.ga.bind (.ref a);have hx0:(expr&&onTheHeap (Value.builtin "BaseException.__getattribute__"))=false:=by cases expr<;>rfl
 have hx2:(Value.builtin "BaseException.__getattribute__"==Value.builtin "object.__getattribute__")=false:=by decide +kernel
 have hx1:(onTheHeap (Value.ref C)&&Value.builtin "BaseException.__getattribute__"==Value.builtin "object.__getattribute__")=false:=by rw[hx2];rfl
 have L1:=looks_findIn (M:=model prog w) X Fx.ga;have L2:=looks_findIn (M:=model prog w) X Fx.gh;repeat (any_goals (first | assumption | (with_reducible refine _U hx ?_;rw[hc]) | (with_reducible refine L1.at ?_) | (with_reducible refine L2.at ?_) | wp_step))
 refine kj X Fx hx hc ?_;repeat (any_goals (first | assumption | wp_step))
theorem ky{Q:Option Value->Shared->Prop}(X:K.In h)(Fx:ExcCls K C)(hx:h.get? a=some o)(hc:o.cls=.ref C)(hq:Q (some (.ref C)) ⟨h,g,d,t+1,os⟩):wpAny (model prog w) A (getAttr? (.ref a) "__class__") Q E ⟨h,g,d,t,os⟩:=by
 unfold getAttr? getAttrBy?;repeat (any_goals (first | assumption | with_reducible apply z1i X Fx hx hc | (with_reducible refine _U hx ?_;rw[hc]) | wp_step))
end
theorem z5M{K:Frag}{a C:Addr}(Fx:ExcCls K C):KitX K (.ref a) (.ref C) (λh=>∃o,h.get? a=some o/\o.cls=.ref C) where
 ty:=λ_ _ _ ⟨_,hx,hc⟩=>zaz hx hc;it:=λ_ _ X _=>by
  obtain⟨dd,cd,sl,ho⟩:=Fx.ty;intro A' Q' E' s' k q;unfold isType loadHead;exact _a (wpAny_loadPart (k _ _ (X _ _ ho)) (_k q))
 ne:=λh tp dd its n sl X htp=>by
  obtain⟨d2,cd,sl2,ho⟩:=Fx.ty;cases e:(Value.ref C==Value.ref tp) with
  | false=>rfl | true=>
   have e:=eq_of_beq e;cases e;have:=X _ _ ho;rw[htp]at this;simp at this
 ca:=λ{prog w A E Q s} X p hq=>by
  obtain⟨h,g,d,t,os⟩:=s;obtain⟨o,hx,hc⟩:=p;exact ky X Fx hx hc hq
end PySem
namespace L2
section
variable {X:Cx}{pins:List (Addr×Obj)}{O:St}{H:Hp}{s:Shared}{A:Around}{E:Value->Shared->Prop}{Q:Value->Shared->Prop}{b:Bool}
theorem z40 {x:V} {u t:Value} {tp:Addr} {cs:List V} (I:Inv X pins O H s) (rx:yP x u) (ty:z23 X.K H x t) (ht:H tp=some (.tup cs)) (e:∀its,yt cs its->W.kitAny X.K t its=some b) (h:∀tk,Q (.bool b) {s with toks:=tk}): wpAny (model X.prog X.w) A (call (.builtin "isinstance") [u,.ref tp]) Q E s:=by
 obtain⟨_,its,vi,o,g1,g2,_,n,g3⟩:=(show yF X.prog X.w H s.heap tp (.tup cs) from I.hok tp _ ht);have e:=e its vi;obtain⟨oc,od,oD,os⟩:=o;cases g2;cases g3;cases ty with
 | non=>cases (show u=Value.none from rx);exact _az W.kitx_none I.kIn True.intro g1 e (λz=>nomatch z) h | bl y=>cases (show u=Value.bool y from rx);exact _az W.kitx_bool I.kIn True.intro g1 e (λz=>nomatch z) h | int i=>obtain⟨t,q⟩:=(show ∃t,u=Value.int i t from rx);cases q;exact _az W.kitx_int I.kIn True.intro g1 e (λz=>nomatch z) h | str y=>obtain⟨t,q⟩:=(show ∃t,u=Value.str y t from rx);cases q;exact _az W.kitx_str I.kIn True.intro g1 e (λz=>nomatch z) h | flt y=>obtain⟨t,q⟩:=(show ∃t,u=Value.float y t from rx);cases q;exact _az W.kitx_float I.kIn True.intro g1 e (λz=>nomatch z) h | @lst a xs ea=>
  cases (show u=Value.ref a from rx);obtain⟨_,_,n,_,h1⟩:=(show yF X.prog X.w H s.heap a (.lst xs) from I.hok a _ ea);exact _az W.kitx_list I.kIn ⟨_,h1,rfl⟩ g1 e (λz=>nomatch z) h | @frz a ob xs ea=>
  cases (show u=Value.ref a from rx);obtain⟨_,_,_,n,_,h1⟩:=(show yF X.prog X.w H s.heap a (.frz ob (.lst xs)) from I.hok a _ ea);exact _az W.kitx_list I.kIn ⟨_,h1,rfl⟩ g1 e (λz=>nomatch z) h | @tup a xs ea=>
  cases (show u=Value.ref a from rx);obtain⟨_,_,_,p⟩:=(show yF X.prog X.w H s.heap a (.tup xs) from I.hok a _ ea);obtain⟨o,h1,h2,_⟩:=p;exact _az W.kitx_tuple I.kIn ⟨o,h1,h2⟩ g1 e (λz=>nomatch z) h | @dK a kvs ea=>
  cases (show u=Value.ref a from rx);obtain⟨_,_,vs,_,p⟩:=(show yF X.prog X.w H s.heap a (.dK kvs) from I.hok a _ ea);obtain⟨o,es,ep,h1,h2,_⟩:=p;exact _az W.kitx_dict I.kIn ⟨o,h1,h2.1⟩ g1 e (λz=>nomatch z) h | @dT a kvs ea=>
  cases (show u=Value.ref a from rx);obtain⟨_,_,xs,_,o,es,ep,h1,h2,_⟩:=(show yF X.prog X.w H s.heap a (.dT kvs) from I.hok a _ ea);exact _az W.kitx_dict I.kIn ⟨o,h1,h2.1⟩ g1 e (λz=>nomatch z) h | @ins a C dx fs ea cl ha hn htk hm=>
  cases (show u=Value.ref a from rx);obtain⟨mA,Oo,_⟩:=z4M I.hok ea;obtain⟨od,J,_⟩:=Oo.look;exact _az (W.kitx_own (cl.get _) cl.hd ha hn htk hm) I.kIn J g1 e (λz=>nomatch z) h
end
theorem z1H{X:Cx}:yB X (.builtin "isinstance") (λxs H Q=>∃x t tp T U b,xs=[x,.ref tp]/\H tp=some (.tup [.ty T,.ty U])/\z23 X.K H x t/\W.kitAny X.K t [.type T,.type U]=some b/\Q (.bl b) H):=by
 intro pins s O H xs us Q I r h;obtain⟨x,t,tp,T,U,b,rfl,htp,ht,hk,q⟩:=h;obtain⟨u,v,rfl,ru,rv⟩:=vals2 r;cases rv;refine z40 I ru ht htp (λits vi=>?_) λtk=>⟨.bl b,H,I.tok _,rfl,q⟩;obtain⟨u1,u2,rfl,r1,r2⟩:=vals2 vi;cases r1;cases r2;exact hk
end L2
namespace Dd
open L2
section
variable {X:Cx}{E:XK}{e a b c tg:Expr}{es:List Expr}{pos:Pos}{CX:CXT}
theorem z7w{K:W.Frag}{t T U:String}(h:t∈["NoneType","bool","int","str","tuple","list","dict"])(hT:T∈["int","bool","str","tuple","list"])(hU:U∈["int","bool","str","tuple","list"]):W.kitAny K (.type t) [.type T,.type U]=some (isT T t||isT U t):=by
 simp only[W.kitAny,z2C h T hT,z2C h U hU];cases isT T t<;>cases isT U t<;>rfl
def z8e(T U:String):D->Sto->R D:=λd s=>match tyD d with | some t=>.ok (.bl (isT T t||isT U t)) s | none=>.no
def z75(T U:String)(f:FE):FE:=λZ s=>(f Z s).bind λd s1=>z8e T U d s1
theorem zbE{p p1 p2 pt:Pos}{k:Nat}{T U:String}{tn un:Str}{f:FE}(hT:T∈["int","bool","str","tuple","list"])(hU:U∈["int","bool","str","tuple","list"])(hv:bootBuiltins tn=some (.type T))(hv2:bootBuiltins un=some (.type U))(hg:Gl X "isinstance")(hm:X.mg "isinstance"=none)(hg1:Gl X tn)(hm1:X.mg tn=none)(hg2:Gl X un)(hm2:X.mg un=none)(he:RE X E e f) (hn:tn≠"__name__":=by decide)(hd:(tn==("__debug__":Str))=false:=by decide)(hn2:un≠"__name__":=by decide)(hd2:(un==("__debug__":Str))=false:=by decide) (hs:starEach [e,.Tuple [.Name tn p1,.Name un p2] k pt] X.env=(false,eval e X.env)::starEach [.Tuple [.Name tn p1,.Name un p2] k pt] X.env:=by rfl)(hpl:(backTo pos (starEach [.Tuple [.Name tn p1,.Name un p2] k pt] X.env)).any (·.1)=false:=by rfl): RE X E (.Call (.Name "isinstance" p) [e,.Tuple [.Name tn p1,.Name un p2] k pt] [] pos) (z75 T U f):= zF (uP z1H hg hm (by decide +kernel) (yC he (yC (z6T (yC (z0h hg1 hm1 hv (show yP (.ty T) (.type T) from rfl) hn hd) (yC (z0h hg2 hm2 hv2 (show yP (.ty U) (.type U) from rfl) hn2 hd2) vH (zk ..)) (zk ..))) vH (z37 ..)) hs) (by decide) (by decide) hs hpl) λO H Q ⟨Y,Z,s,r,en,h⟩=>by
  refine zX (k:=λZ d s1=>z8e T U d s1) r en h _ λv H1 Y1 s1 d r1 en1 dn stp h1=>?_;unfold z8e at h1;split at h1
  ·rename_i t et;refine⟨(show (2:Nat)<=sizeLine from by decide +kernel),λtp htp=>?_⟩;have st2:=yQ.lay (o:=.tup [.ty T,.ty U]) r1 htp (by intro _ z;cases z);obtain⟨q1,q2⟩:=z78 st2.rep (dn.mono st2) et;exact⟨v,.type t,tp,T,U,isT T t||isT U t,rfl,ya,q1,z7w q2 hT hU,h1 _ _ _ st2 ye⟩
  ·exact h1.elim
end
end Dd
namespace L2
open MeetsSeq MeetsSeq2 SeqAt
def zax(k:Bool):Value->Bool
 | .bool b=>b==k | _=>false
theorem z0v:∀{bs:List Bool}{its:List Value},yt (bs.map V.bl) its->its=bs.map Value.bool
 | [],_,.nil=>rfl | b::bs,_,.cons r rs=>by
  cases r;rw[z0v rs];rfl
theorem z7e:∀(bs:List Bool)(k:Bool)(m:Nat)(hm:m<bs.length),m<bs.idxOf k->(bs[m]==k)=false
 | [],k,m,hm,_=>absurd hm (by simp) | b::bs,k,m,hm,h=>by
  rw[List.idxOf_cons]at h;cases e:b==k with
  | true=>rw[e]at h;simp at h | false=>
   rw[e]at h;cases m with
   | zero=>simpa using e | succ m=>simpa using z7e bs k m (by simpa using hm) (by simpa using h)
section
variable {X:Cx}
def zbj:V->List V->Hp->VK->Prop:=λx vs H Q=>∃(p:Addr)(bs:List Bool)(k:Bool),x=.ref p/\vs=[.bl k]/\Rd H p (.lst (bs.map V.bl))/\Q (.int (bs.count k:Nat)) H
theorem z2B:MtR X "list.count" zbj:=by
 intro pins s O H x vs v us Q I rx rv h;obtain⟨p,bs,k,rfl,rfl,hp,q⟩:=h;cases rx;obtain⟨u,rfl,ru⟩:=vals1 rv;cases ru;obtain⟨_,its,n,r,e1⟩:=hp.ok I.hok;cases z0v r;refine _aY PySem.F.slot_list_count ⟨_,e1,rfl⟩ PySem.F.entry_list_count (PySem.F.args_list_count_2 _ _) (list_countAt p _ n _ _ (.bool k) (zax k)) ⟨e1,λy hy=>?_,?_⟩
 ·obtain⟨b,_,rfl⟩:=_L.mp (List.mem_toArray.mp hy);exact EqAt.bool_bool b k
 ·have e:(List.map Value.bool bs).countP (zax k)=bs.count k:=by rw[List.countP_map];rfl
  refine⟨.int (bs.count k:Nat),H,I.kept (λb o e=>e),⟨s.toks,?_⟩,q⟩;rw[<- e]
def zbx:V->List V->Hp->VK->Prop:=λx vs H Q=>∃(p:Addr)(bs:List Bool)(k:Bool),x=.ref p/\vs=[.bl k]/\Rd H p (.lst (bs.map V.bl))/\k∈bs/\bs.length<2 ^ 62/\Q (.int (bs.idxOf k:Nat)) H
theorem z2k:MtR X "list.index" zbx:=by
 intro pins s O H x vs v us Q I rx rv h;obtain⟨p,bs,k,rfl,rfl,hp,hk,hl,q⟩:=h;cases rx;obtain⟨u,rfl,ru⟩:=vals1 rv;cases ru;obtain⟨_,its,n,r,e1⟩:=hp.ok I.hok;cases z0v r;have hj:bs.idxOf k<bs.length:=List.idxOf_lt_length_iff.mpr hk;refine _aY PySem.F.slot_list_index ⟨_,e1,rfl⟩ PySem.F.entry_list_index (PySem.F.args_list_index_2 _ _) (list_indexAt p _ n _ _ (.bool k) (zax k) (bs.idxOf k) (by simpa using hj) (by omega) ?_ ?_) ⟨e1,λy hy=>?_,?_⟩
 ·have:=List.getElem_idxOf hj;simp[zax,this]
 ·intro m hm hlt;have hm':m<bs.length:=by simpa using hm
  have:=z7e bs k m hm' hlt;simpa[zax] using this
 ·obtain⟨b,_,rfl⟩:=_L.mp (List.mem_toArray.mp hy);exact EqAt.bool_bool b k
 ·exact⟨.int (bs.idxOf k:Nat),H,I.kept (λb o e=>e),⟨s.toks,rfl⟩,q⟩
end
end L2
namespace Dd
open L2
section
variable {X:Cx}{E:XK}{o e:Expr}{pos:Pos}
def z8h(fo fv:FE):FE:=λZ s=>(fo Z s).bind λo s1=>match o with
 | .lst ds=>(fv Z s1).bind λd s2=>match bools ds,d with
  | some ns,.bl k=>.ok (.int (ns.count k:Nat)) s2 | _,_=>.no
 | _=>.no
theorem z5x{apos:Pos}{fo fv:FE}(ho:RE X E o fo)(hv:RE X E e fv)(hbase:attributeBase o "count" X.env (eval o X.env)=eval o X.env:=by rfl) (hfew:((backTo pos (starEach [e] X.env)).all (λx=>!x.1)&&(backToKw pos (keywordEach [] X.env)).all (λx=>x.1.isSome) && decide ([e].length+([]:List Keyword).length+(if ([]:List Keyword).isEmpty then 0 else 1)<30))=true:=by rfl) (hline:(apos.endLine==pos.line)=true:=by rfl)(hs:starEach [e] X.env=(false,eval e X.env)::starEach [] X.env:=by rfl)(hplain:(backTo pos (starEach [] X.env)).any (·.1)=false:=by rfl): RE X E (.Call (.Attribute o "count" apos) [e] [] pos) (z8h fo fv):= zF (z6t _aQ PySem.F.slot_list_count PySem.F.type_list_count z2B ho (yC hv vH hs) hbase hfew hline hs hplain) λO H Q ⟨Y,Z,s,r,en,h⟩=>by
  unfold z8h at h;refine⟨Y,Z,s,r,en,(okR.bind (Dn:=Den (gm X)) h).imp λov H1 ⟨Y1,s1,od,stp,dn,h1⟩=>?_⟩;cases od with
  | lst ds=>
   simp only at h1;have hty:tyV X.K "list" ov H1:=by
    simp only[Den]at dn;obtain⟨a,ob,vs,rfl,e1,_⟩:=dn;exact .inl ⟨rfl,vs,.inl (.inr ⟨ob,e1⟩)⟩
   refine⟨hty,⟨Y1,Z,s1,stp.rep,en.mono stp,(okR.bind (Dn:=Den (gm X)) h1).imp λv H2 ⟨Y2,s2,d,stp2,dn2,h2⟩=>?_⟩⟩;split at h2
   ·rename_i ns k ei;cases wI dn2;have dov:=dn.mono stp2;simp only[Den]at dov;obtain⟨a,ob,vs,rfl,e1,e2⟩:=dov;rw[jf ei]at e2;cases jd e2;exact⟨a,ns,k,rfl,rfl,.inr ⟨ob,e1⟩,h2.here stp2.rep yd⟩
   ·exact h2.elim | _=>exact h1.elim
def z87(fo fv:FE):FE:=λZ s=>(fo Z s).bind λo s1=>match o with
 | .lst ds=>(fv Z s1).bind λd s2=>match bools ds,d with
  | some ns,.bl k=>if k∈ns/\ns.length<2 ^ 62 then .ok (.int (ns.idxOf k:Nat)) s2 else .no | _,_=>.no
 | _=>.no
theorem z6f{apos:Pos}{fo fv:FE}(ho:RE X E o fo)(hv:RE X E e fv)(hbase:attributeBase o "index" X.env (eval o X.env)=eval o X.env:=by rfl) (hfew:((backTo pos (starEach [e] X.env)).all (λx=>!x.1)&&(backToKw pos (keywordEach [] X.env)).all (λx=>x.1.isSome) && decide ([e].length+([]:List Keyword).length+(if ([]:List Keyword).isEmpty then 0 else 1)<30))=true:=by rfl) (hline:(apos.endLine==pos.line)=true:=by rfl)(hs:starEach [e] X.env=(false,eval e X.env)::starEach [] X.env:=by rfl)(hplain:(backTo pos (starEach [] X.env)).any (·.1)=false:=by rfl): RE X E (.Call (.Attribute o "index" apos) [e] [] pos) (z87 fo fv):= zF (z6t _aQ PySem.F.slot_list_index PySem.F.type_list_index z2k ho (yC hv vH hs) hbase hfew hline hs hplain) λO H Q ⟨Y,Z,s,r,en,h⟩=>by
  unfold z87 at h;refine⟨Y,Z,s,r,en,(okR.bind (Dn:=Den (gm X)) h).imp λov H1 ⟨Y1,s1,od,stp,dn,h1⟩=>?_⟩;cases od with
  | lst ds=>
   simp only at h1;have hty:tyV X.K "list" ov H1:=by
    simp only[Den]at dn;obtain⟨a,ob,vs,rfl,e1,_⟩:=dn;exact .inl ⟨rfl,vs,.inl (.inr ⟨ob,e1⟩)⟩
   refine⟨hty,⟨Y1,Z,s1,stp.rep,en.mono stp,(okR.bind (Dn:=Den (gm X)) h1).imp λv H2 ⟨Y2,s2,d,stp2,dn2,h2⟩=>?_⟩⟩;split at h2
   ·rename_i ns k ei;split at h2
    ·rename_i hk;cases wI dn2;have dov:=dn.mono stp2;simp only[Den]at dov;obtain⟨a,ob,vs,rfl,e1,e2⟩:=dov;rw[jf ei]at e2;cases jd e2;exact⟨a,ns,k,rfl,rfl,.inr ⟨ob,e1⟩,hk.1,hk.2,h2.here stp2.rep yd⟩
    ·exact h2.elim
   ·exact h2.elim | _=>exact h1.elim
end
end Dd
namespace L2
structure wM(k:Nat)(A:Around):Prop where
 dp:A.depth+3*k+5<recursionLimit
 un:A.units+16*k+200<cLine
 gd:A.guards=some []
theorem qO.h{k:Nat}{A:Around}(r:qO k A):wM k A:=⟨r.dp,r.un,r.gd⟩
theorem wM.mono{j k:Nat}{A:Around}(r:wM k A)(h:j<=k):wM j A:=⟨by have:=r.dp;omega,by have:=r.un;omega,r.gd⟩
theorem wM.deeper{k:Nat}{A:Around}(r:wM (k+1) A)(env:Env):wM k (A.deeper env):= ⟨by have:=r.dp;show A.depth+1+3*k+5<_;omega,by have:=r.un;show A.units+3+16*k+200<_;omega,r.gd⟩
theorem wM.depth{k:Nat}{A:Around}(r:wM k A):A.depth<recursionLimit:=by have:=r.dp;omega
theorem wM.units{k:Nat}{A:Around}(r:wM k A):A.units+64<cLine:=by have:=r.un;omega
structure z4Y(P:Program)(w:World)(K:W.Frag)(mg:Str->Option Value)(base:Heap)(CX:CXT)(k:Nat)(f:Addr)(fd:FuncData)(ps:List Str)(sp:Sp):Prop where
 len:∀vs H Q E,sp vs H Q E->vs.length=ps.length
 run:∀(A:Around)(outer:List Env)(s:Shared)(H:Hp)(args:Args)(us:List Value)(vs:List V)(Q:VK)(E:XK),wM k A->z9D P w K mg base A outer s H->BindsTo s fd args (ps.zip us)->yt vs us->sp vs H Q E-> codeAny (model P w) A (.call (.ref f) args) (CR CX outer P w H s Q E) s
theorem z8X {CX:CXT} {P:Program} {w:World} {K:W.Frag} {mg:Str->Option Value} {base:Heap} {k:Nat} {f:Addr} {name qual:Str} {params:Arguments} {body:List Stmt} {scope:Scope} {dV kV doc pm cdv ct oc:Value} {an od:Option Addr} {osl:Array (Option Value)} {N ps:List Str} {sp:Sp} (lk:K.lookup f=some ⟨oc,od,.func (W.fnOf name qual params body scope dV kV doc pm an cdv ct),osl⟩) (hcd:W.codeIn K cdv qual=true) (S:zC N ps scope) (len:∀vs H Q E,sp vs H Q E->vs.length=ps.length) (hbody:∀(A:Around) (outer:List Env) (s:Shared) (H:Hp) (vs:List V) (Q:VK) (E:XK),wM k (A.deeper (envOfC qual scope s.heap.objs.size f cdv))->sp vs H Q E-> ∃t,PSs (jK CX P w K mg base N qual scope f cdv A outer s H E) body t/\t {nx:=λ_ H'=>Q .non H',rt:=Q} (start N vs) H): z4Y P w K mg base CX (k+1) f (W.fnOf name qual params body scope dV kV doc pm an cdv ct) ps sp:=by
 refine⟨len,λA outer s H args us vs Q E hr e0 hb r hsp=>?_⟩;have hl:=len _ _ _ _ hsp;have KX:K.In s.heap:=e0.mod.kin.keeps λb o e=>(e0.bs b o e).1;have lim:s.heap.NoLimit:=e0.mod.nolimit.keeps λb o e=>(e0.bs b o e).1;have hkind:∀y∈ps.zip us,scope.names.lookup y.1=some .local\/(scope.names.lookup y.1=some .cell/\((cellsFrom (s.heap.objs.size+1) scope.names []).lookup y.1).isSome=true):=λ⟨n,v⟩ hy=>by
  rcases S.par n (_a6 hy).1 with q | q;·exact .inl q
  ·exact .inr ⟨q,_bw _ _ _ (.inl q)⟩
 refine codeAny_call_function hr.depth (KX _ _ lk) rfl S.co S.gen rfl (W.codeRec_of KX hcd) (hb _ _ _ _ ?_);refine wpAny_newFunctionEnv_cells S.kind hkind λenv he s1 x=>?_;subst he;refine⟨lim.keeps x.toInCall.keep,codeAny_func ?_⟩;obtain⟨t,ht,hq⟩:=hbody A outer s H vs Q E (hr.deeper _) hsp;have I:Inv (jK CX P w K mg base N qual scope f cdv A outer s H E) [] (start N vs) H s1:=z1m S e0 hl r x;refine _J (ht [] s1 (start N vs) H _ I hq) (λfl s' hs=>?_) λe s' hs=>hs;have fin:∀{O':St} {H':Hp} {v:V} {u:Value},Inv (jK CX P w K mg base N qual scope f cdv A outer s H E) [] O' H' s'->yP v u->Q v H'->CE outer P w H s Q u s':= λ{O' H' v u} J rv q=>⟨v,H',J.os,J.bare,J.base,J.hok,rv,q⟩;cases fl with
 | ret u=>
  obtain⟨v,O',H',J,rv,q⟩:=hs;exact fin J rv q | next=>
  obtain⟨O',H',J,q⟩:=hs;exact fin (v:=V.non) (u:=Value.none) J rfl q | brk=>
  obtain⟨_,_,_,q⟩:=hs;exact False.elim q | cont=>
  obtain⟨_,_,_,q⟩:=hs;exact False.elim q
section
variable {X:Cx}{CX:CXT}{k:Nat}{f:Addr}{fd:FuncData}{ps:List Str}{sp:Sp}{ds:List Value}{dvs:List V}{E:XK}{x:Str}{p pos:Pos}{e:Expr}{es:List Expr}{t:TA}
theorem z7C{pins:List (Addr×Obj)}{O:St}{H:Hp}{s:Shared}{Q:VK}{us:List Value}{vs:List V}(F:z4Y X.prog X.w X.K X.mg X.base CX k f fd ps sp)(hr:wM k X.A)(hb:Binds X.K fd ps ds)(hd:yt dvs ds)(hx:Passes CX X E) (I:Inv X pins O H s)(r:yt vs us)(h:sp (vs++dvs) H Q E):wpAny (model X.prog X.w) X.A (call (.ref f) us) (EP X pins O Q) X.xe s:=by
 have r2:yt (vs++dvs) (us++ds):=r.append hd;have hl:(us++ds).length=ps.length:=by rw[<- r2.length];exact F.len _ _ _ _ h
 refine wpAny_call (_bK (F.run X.A X.stack s H ⟨us,[]⟩ (us++ds) (vs++dvs) Q E hr I.env0 (hb s us I.kIn hl) r2 h) λr s' hq=>?_);cases r with
 | error e=>exact hx pins O H s e s' I hq | ok fl=> cases fl with
  | ret u=>exact I.after hq | next=>exact False.elim hq | brk=>exact False.elim hq | cont=>exact False.elim hq
theorem z5A (F:z4Y X.prog X.w X.K X.mg X.base CX k f fd ps sp) (hr:wM k X.A) (hg:Gl X x) (hm:X.mg x=some (.ref f)) (hk:W.keepIn X.K (.ref f)=true) (hb:Binds X.K fd ps ds) (hd:yt dvs ds) (hx:Passes CX X E) (ha:PA X (e::es) t) (hdb:(x==("__debug__":Str))=false:=by decide) (he:starEach (e::es) X.env=(false,eval e X.env)::starEach es X.env:=by rfl) (hpl:(backTo pos (starEach es X.env)).any (·.1)=false:=by rfl): PE X (.Call (.Name x p) (e::es) [] pos) (z9o sp dvs E t):=by
 intro pins s O H Q I h;refine _aw (ke I hg hm ?_ hdb);refine W.callWith_K (h₀:=X.base) I.ok.mod.kin hk (thn (ha pos pins s O H _ I h) λus s1 ⟨vs,H1,I1,r,q⟩=>⟨I1.kIn,?_⟩) he hpl;exact z7C F hr hb hd hx I1 r q
end
section
variable {P:Program}{w:World}{K:W.Frag}{mg:Str->Option Value}{base:Heap}
theorem Fun.okH{x qual:Str}{st:Stmt}{f:Addr}{fd:FuncData}{N ps:List Str}{k:Nat}{sp:Sp}(F:Fun K x qual st f fd)(S:zC N ps (zh st))(len:∀vs H Q E,sp vs H Q E->vs.length=ps.length) (hbody:∀(cdv:Value)(A:Around)(outer:List Env)(s:Shared)(H:Hp)(vs:List V)(Q:VK)(E:XK),wM k (A.deeper (envOfC qual (zh st) s.heap.objs.size f cdv))->sp vs H Q E-> ∃t,PSs (jK CX0 P w K mg base N qual (zh st) f cdv A outer s H E).nox (xz st) t/\t {nx:=λ_ H'=>Q .non H',rt:=Q} (start N vs) H):z4Y P w K mg base CX0 (k+1) f fd ps sp:=by
 obtain⟨oc,od,kV,doc,pm,an,cdv,ct,osl,rfl,lk,hcd⟩:=F.ex;refine z8X lk hcd S len λA outer s H vs Q E hr hsp=>?_;obtain⟨t,h,q⟩:=hbody cdv A outer s H vs Q E hr hsp;exact⟨t,h.nox,q⟩
end
end L2
namespace Dd
open L2
def zaX(P:Program)(w:World)(K:W.Frag)(mg:Str->Option Value)(base:Heap)(CX:CXT)(x:Str)(n:Nat)(M:Mir):Prop:= ∃f fd ps,z4Y P w K mg base CX n f fd ps (z6Q ⟨mg,K⟩ M)/\Binds K fd ps []/\W.keepIn K (.ref f)=true/\mg x=some (.ref f)
section
variable {X:Cx}{E:XK}{e:Expr}{es:List Expr}{pos:Pos}{CX:CXT}
theorem z8v {x:Str} {p:Pos} {n:Nat} {M:Mir} {f:FA} (F:zaX X.prog X.w X.K X.mg X.base CX x n M) (hr:wM n X.A) (hx:Passes CX X E) (hg:Gl X x) (ha:RA X E (e::es) f) (hdb:(x==("__debug__":Str))=false:=by decide) (he:starEach (e::es) X.env=(false,eval e X.env)::starEach es X.env:=by rfl) (hpl:(backTo pos (starEach es X.env)).any (·.1)=false:=by rfl):RE X E (.Call (.Name x p) (e::es) [] pos) (zf M f):=by
 obtain⟨fa,fd,ps,F,hb,hk,hm⟩:=F;refine zF (z5A F hr hg hm hk hb .nil hx ha hdb he hpl) λO H Q ⟨Y,Z,s,r,en,h⟩=>?_;refine wX (k:=λZ xs s1=>M xs s1) r en h _ λvs H2 Y2 s2 ds r2 en2 dn2 stp2 h3=>?_;rw[_aI];exact⟨Y2,s2,ds,r2,dn2,h3⟩
end
section
variable {P:Program}{w:World}{K:W.Frag}{mg:Str->Option Value}{base:Heap}
theorem z7S{x qual:Str}{st:Stmt}{f:Addr}{fd:FuncData}{N ps:List Str}{k n:Nat}{fs:FS}(F:Fun K x qual st f fd)(hm:mg x=some (.ref f))(hb:Binds K fd ps [])(S:zC N ps (zh st))(hn:ps.length=n) (body:∀(cdv:Value)(A:Around)(outer:List Env)(s:Shared)(H:Hp)(E:XK),wM k (A.deeper (envOfC qual (zh st) s.heap.objs.size f cdv))-> RSs (jK CX0 P w K mg base N qual (zh st) f cdv A outer s H E).nox E0 (xz st) fs):zaX P w K mg base CX0 x (k+1) (Mof N n fs):=by
 subst hn;refine⟨f,fd,ps,F.okH S (λvs H Q E h=>?_) (λcdv A outer s H vs Q E hr h=>?_),hb,F.kp,hm⟩
 ·obtain⟨Y,s,ds,_,dn,h⟩:=h;unfold Mof at h;split at h;·rename_i e;rw[dn.length];exact e
  ·exact h.elim
 ·obtain⟨Y,st0,ds,r,dn,h⟩:=h;refine⟨_,body cdv A outer s H E hr,Y,zt N ds,st0,r,vW dn,?_⟩;unfold Mof at h;split at h
  ·split at h
   ·rename_i d s' e;rw[e];intro fv H' Y' stp fd;cases fv with
    | rt v=>exact h v H' Y' stp fd | _=>exact (show False from fd).elim
   ·rename_i Z s' e;rw[e];intro fv H' Y' stp fd;cases fv with
    | nx v=>exact h .non H' Y' stp (by simp[Den]) | _=>exact (show False from fd).elim
   ·exact h.elim
  ·exact h.elim
end
theorem qD{X:Cx}:yB X (.builtin "isinstance") (λxs H Q=>∃(a C:Addr)(y:V)(b:Bool),xs=[.ref a,y]/\H a=some (z5R C a)/\PySem.ExcCls X.K C/\(∀c,yP y c->W.kitOne X.K (.ref C) c=some b)/\Q (.bl b) H):=by
 intro pins s O H xs us Q I r h;obtain⟨a,C,y,b,rfl,ha,hc,hk,q⟩:=h;obtain⟨u,v,rfl,ru,rv⟩:=vals2 r;cases ru;obtain⟨⟨o,vs,h1,h2,_⟩,_⟩:=(show yF X.prog X.w H s.heap a (z5R C a) from I.hok a _ ha);exact _ar (PySem.z5M hc) I.kIn ⟨o,h1,h2⟩ (hk v rv) (λz=>nomatch z) λtk=>⟨.bl b,H,I.tok _,rfl,q⟩
structure z1b(mg:Gm)(rs cs:List Str):Prop where
 cls:∀c∈rs,∀C,mg.m c=some (.ref C)->PySem.ExcCls mg.K C
 has:∀d∈cs,∃D,mg.m d=some (.ref D)
 one:∀c∈rs,∀d∈cs,∀C D,mg.m c=some (.ref C)->mg.m d=some (.ref D)->W.kitOne mg.K (.ref C) (.ref D)=some (c==d)
 val:∀c∈rs,∀C,mg.m c=some (.ref C)->W.kitOne mg.K (.ref C) (.type "ValueError")=some true
def zbv(rs:List Str)(T:Str):D->Sto->R D
 | .exc c,s=>if c∈rs then .ok (.bl (c==T)) s else .no | _,_=>.no
def z0O(rs:List Str)(T:Str)(f:FE):FE:=λZ s=>(f Z s).bind λd s1=>zbv rs T d s1
def zbw(rs:List Str):D->Sto->R D
 | .exc c,s=>if c∈rs then .ok (.bl true) s else .no | _,_=>.no
def zcq(rs:List Str)(f:FE):FE:=λZ s=>(f Z s).bind λd s1=>zbw rs d s1
section
variable {X:Cx}{E:XK}{e:Expr}{pos:Pos}
theorem vQ{p p2:Pos}{T:Str}{rs cs:List Str}{f:FE}(FM:z1b (gm X) rs cs)(hT:T∈cs)(hg:Gl X "isinstance")(hm:X.mg "isinstance"=none)(hg2:Gl X T)(he:RE X E e f) (hd:(T==("__debug__":Str))=false:=by decide) (hs:starEach [e,.Name T p2] X.env=(false,eval e X.env)::starEach [.Name T p2] X.env:=by rfl)(hpl:(backTo pos (starEach [.Name T p2] X.env)).any (·.1)=false:=by rfl):RE X E (.Call (.Name "isinstance" p) [e,.Name T p2] [] pos) (z0O rs T f):=by
 obtain⟨D,hD⟩:=FM.has T hT;exact zF (uP qD hg hm (by decide +kernel) (yC he (yC (z0u hg2 hD (show yP (.ref D) (.ref D) from rfl) hd) vH (zk ..)) hs) (by decide) (by decide) hs hpl) λO H Q ⟨Y,Z,s,r,en,h⟩=>by
  refine zX (k:=λZ d s1=>zbv rs T d s1) r en h _ λv H1 Y1 s1 d r1 en1 dn stp h1=>?_;unfold zbv at h1;split at h1
  ·rename_i c;split at h1
   ·rename_i hc;simp only[Den]at dn;obtain⟨a,C,rfl,hC,hH⟩:=dn;exact⟨a,C,.ref D,c==T,rfl,hH,FM.cls c hc C hC,λz hz=>by cases hz;exact FM.one c hc T hT C D hC hD,okR.here (b:=V.bl (c==T)) h1 r1 ye⟩
   ·exact h1.elim
  ·exact h1.elim
theorem zbc{p p2:Pos}{rs cs:List Str}{f:FE}(FM:z1b (gm X) rs cs)(hg:Gl X "isinstance")(hm:X.mg "isinstance"=none)(hg2:Gl X "ValueError")(hm2:X.mg "ValueError"=none)(he:RE X E e f) (hs:starEach [e,.Name "ValueError" p2] X.env=(false,eval e X.env)::starEach [.Name "ValueError" p2] X.env:=by rfl)(hpl:(backTo pos (starEach [.Name "ValueError" p2] X.env)).any (·.1)=false:=by rfl):RE X E (.Call (.Name "isinstance" p) [e,.Name "ValueError" p2] [] pos) (zcq rs f):= zF (uP qD hg hm (by decide +kernel) (yC he (yC (z0h hg2 hm2 (by decide +kernel) (show yP (.ty "ValueError") (.type "ValueError") from rfl)) vH (zk ..)) hs) (by decide) (by decide) hs hpl) λO H Q ⟨Y,Z,s,r,en,h⟩=>by
  refine zX (k:=λZ d s1=>zbw rs d s1) r en h _ λv H1 Y1 s1 d r1 en1 dn stp h1=>?_;unfold zbw at h1;split at h1
  ·rename_i c;split at h1
   ·rename_i hc;simp only[Den]at dn;obtain⟨a,C,rfl,hC,hH⟩:=dn;exact⟨a,C,.ty "ValueError",true,rfl,hH,FM.cls c hc C hC,λz hz=>by cases hz;exact FM.val c hc C hC,okR.here (b:=V.bl true) h1 r1 ye⟩
   ·exact h1.elim
  ·exact h1.elim
end
section
variable {X:Cx}{E:XK}{e a b:Expr}{es:List Expr}{pos:Pos}{CX:CXT}
theorem zbB{x:Str}{g:Addr}{p:Pos}(hg:Gl X x)(hm:X.mg x=some (.ref g))(hd:(x==("__debug__":Str))=false:=by decide):RE X E (.Name x p) (eC (.fn x)):= zF (z0u hg hm (show yP (.ref g) (.ref g) from rfl) hd) λO H Q ⟨Y,Z,s,r,en,h⟩=>okR.here h r (by simp only[Den];exact⟨g,rfl,hm⟩)
theorem zas{x:Str}{p:Pos}{n:Nat}{M:Mir}(F:Has X.prog X.w X.K X.mg X.base CX x n M)(hg:Gl X x)(hd:(x==("__debug__":Str))=false:=by decide):RE X E (.Name x p) (eC (.fn x)):=by
 obtain⟨f,_,_,_,_,_,hm⟩:=F;exact zbB hg hm hd
def z3o(g:FE)(Ms:List (Str×Mir))(f:FA):FE:=λZ s=>(g Z s).bind λd s1=>match d with
 | .fn y=>match Ms.lookup y with
  | some M=>(f Z s1).bind λxs s2=>M xs s2 | none=>.no
 | _=>.no
theorem z6v(args:List Expr)(sp:Pos)(env:Env):eval (.Call (.Subscript a b sp) args [] pos) env=(do callWith pos (<- eval (.Subscript a b sp) env) [] (backTo pos (starEach args env)) (backToKw pos (keywordEach [] env))):=rfl
theorem z8I {sp:Pos} {n:Nat} {Ms:List (Str×Mir)} {g:FE} {f:FA} (F:∀y M,Ms.lookup y=some M->Has X.prog X.w X.K X.mg X.base CX y n M) (hr:qO n X.A) (hxx:Passes CX X E) (hg:RE X E (.Subscript a b sp) g) (ha:RA X E (e::es) f) (he:starEach (e::es) X.env=(false,eval e X.env)::starEach es X.env:=by rfl) (hpl:(backTo pos (starEach es X.env)).any (·.1)=false:=by rfl):RE X E (.Call (.Subscript a b sp) (e::es) [] pos) (z3o g Ms f):=by
 intro pins s O H Q I ⟨Y,Z,st,r,en,h⟩;unfold z3o at h;rw[z6v];refine _a (thn (hg pins s O H (λv H1=>∃Y1 s1 d,yQ (gm X) H Y H1 Y1 s1/\Den (gm X) H1 Y1 d v/\okR (gm X) E H1 Y1 (Den (gm X)) (match d with
  | .fn y=>match Ms.lookup y with
   | some M=>(f Z s1).bind λxs s2=>M xs s2 | none=>.no
  | _=>.no) Q) I ⟨Y,Z,st,r,en,(okR.bind (Dn:=Den (gm X)) h).imp λv H1 q=>q⟩) λu s1 ⟨v,H1,I1,r1,Y1,st1,d,stp,dn,h1⟩=>?_);split at h1
 ·rename_i y;split at h1
  ·rename_i M hM;simp only[Den]at dn;obtain⟨gg,rfl,hmg⟩:=dn;cases r1;obtain⟨fa,fd,ps,Fk,hb,hk,hm⟩:=F y M hM;have e0:gg=fa:=by
    have hmg':X.mg y=some (.ref gg):=hmg;rw[hmg']at hm;cases hm;rfl
   subst e0;have hA:=ha pos pins s1 O H1 (λvs H2=>z6Q (gm X) M (vs++[]) H2 Q E) I1 (wX (k:=λZ xs s1=>M xs s1) stp.rep (en.mono stp) h1 _ λvs H2 Y2 s2 ds r2 en2 dn2 stp2 h3=>by
    rw[_aI];exact⟨Y2,s2,ds,r2,dn2,h3⟩);refine W.callWith_K (h₀:=X.base) I1.ok.mod.kin hk (thn hA λus s2 ⟨vs,H2,I2,r2,q⟩=>⟨I2.kIn,?_⟩) he hpl;exact z7l Fk hr hb .nil hxx I2 r2 q
  ·exact h1.elim
 ·exact h1.elim
end
end Dd
namespace PySem
open PySem.AutoSeq1 (wpAny_loadPart')
open MeetsSeq MeetsSeq2 SeqAt
end PySem
namespace L2
end L2
namespace Dd
open L2
end Dd
namespace L2
section
variable {X:Cx}{pos:Pos}
theorem Inv.far{pins:List (Addr×Obj)}{O:St}{H:Hp}{s:Shared}(I:Inv X pins O H s):(s.heap.objs.size==sysModules)=false:=by
 obtain⟨o,es,ep,h,_⟩:=I.mod.glob.keeps I.bk;have h1:(mainGlobals:Nat)<s.heap.objs.size:=_h h;have e1:(1:Nat)<=(mainGlobals:Nat):=by decide
 have h2:(1:Nat)<s.heap.objs.size:=Nat.lt_of_le_of_lt e1 h1;have h3:s.heap.objs.size≠(1:Nat):=_bJ h2;exact beq_false_of_ne h3
def zbq:TE:=λ_ H Q=>∀p,H p=none->Q (.ref p) (upd H p (.dK []))
theorem z7R:PE X (.Dict [] [] pos) zbq:=by
 intro pins s O H Q I hq;refine wpAny_Dict_empty ?_;refine⟨.ref s.heap.objs.size,upd H s.heap.objs.size (.dK []),I.laid (o:=.dK []) (t':=s.toks) (λb u e=>_d _ e) (_i _) ⟨Nat.zero_le _,I.far,[],?_,Heap.DictOf.new _⟩,rfl,hq _ (I.hok.fresh (_i _))⟩;constructor
end
end L2
namespace Dd
open L2
section
variable {X:Cx}{E:XK}{pos:Pos}
theorem zb9:RE X E (.Dict [] [] pos) (eC .dct):= zF z7R λO H Q ⟨Y,Z,s,r,en,h⟩=>λp hp=>by
  have stp:=yQ.lay (o:=.dK []) r hp (by intro _ z;cases z);exact h _ _ _ stp (by simp only[Den];exact⟨p,rfl,ya⟩)
end
structure XOk(K:W.Frag)(C:Addr):Prop where
 exc:W.excIn K C bmV "ValueError.__new__"=true
 cls:PySem.ExcCls K C
 val:W.kitOne K (.ref C) (.type "ValueError")=some true
theorem z1u{K:W.Frag}{C:Addr}(h:jT K C=true):∃d cd sl,K.lookup C=some ⟨.type "type",d,.cls cd,sl⟩:=by
 unfold jT at h;split at h
 ·rename_i t d cd sl e;have:=_X.mp h;subst this;exact⟨_,_,_,e⟩
 ·cases h
theorem wj{K:W.Frag}{x:Str}(h:kW K x=true):∃C,W.nsIn K mainGlobals x=some (some (.ref C))/\XOk K C:=by
 unfold kW at h;split at h
 ·rename_i C e;simp only[_q]at h;obtain⟨h1,h2,h3,h4,h5,h6,h7,h8⟩:=h;exact⟨C,e,h1,⟨_X.mp h2,_X.mp h3,_X.mp h4,_X.mp h5,_X.mp h6,z1u h7⟩,_X.mp h8⟩
 ·cases h
section
variable {K:W.Frag}{mg:Str->Option Value}(G:∀(x:Str)(v:Value),W.nsIn K mainGlobals x=some (some v)->mg x=some v)
include G
theorem z4e{x:Str}(h:kW K x=true):z8L K mg x:=by
 obtain⟨C,e,o⟩:=wj h;exact⟨C,G x _ e,o.exc⟩
theorem z4q{rs cs:List Str}(hr:∀x∈rs,kW K x=true)(hc:∀y∈cs,kW K y=true)(h:∀x∈rs,∀y∈cs,(kI K x y).map (·.2)=some (some (x==y))):z1b ⟨mg,K⟩ rs cs:=by
 have un:∀x C D,W.nsIn K mainGlobals x=some (some (.ref D))->mg x=some (.ref C)->C=D:=λx C D e m=>by
  have:=G x _ e;rw[m]at this;cases this;rfl
 refine⟨λc hcm C m=>?_,λd hd=>?_,λc hcm d hd C D mC mD=>?_,λc hcm C m=>?_⟩
 ·obtain⟨D,e,o⟩:=wj (hr c hcm);cases un c C D e m;exact o.cls
 ·obtain⟨D,e,o⟩:=wj (hc d hd);exact⟨D,G d _ e⟩
 ·obtain⟨C',e1,_⟩:=wj (hr c hcm);obtain⟨D',e2,_⟩:=wj (hc d hd);cases un c C C' e1 mC;cases un d D D' e2 mD;have q:=h c hcm d hd;unfold kI at q;rw[e1,e2]at q;simpa using q
 ·obtain⟨D,e,o⟩:=wj (hr c hcm);cases un c C D e m;exact o.val
theorem z8z{x y:Str}(hx:kW K x=true)(hy:kW K y=true)(h:(kI K x y).map (·.1)=some (some true)):zaW K mg x y:=by
 obtain⟨C,e1,o1⟩:=wj hx;obtain⟨D,e2,o2⟩:=wj hy;refine⟨C,D,G x _ e1,G y _ e2,o1.exc,o2.exc,λh₀ X=>?_⟩;unfold kI at h;rw[e1,e2]at h;have hm:W.mroIn K C (.ref D)=some true:=by simpa using h
 obtain⟨bm,N,nm,q,bs,hdct,sn,sub,ab,col,dd,k0,k1,k2,k3,k5,mN,hC,_⟩:=z5b X o1.exc;refine⟨bm,N,nm,q,bs,hdct,sn,sub,ab,col,dd,k0,k1,k2,k3,k5,hC,?_⟩;obtain⟨d',cd',sl',hl⟩:=o1.cls.ty;have h2:=X _ _ hl;rw[hC]at h2;unfold W.mroIn W.clsIn at hm;rw[hl]at hm;simp only[_Z]at hm;split at hm;·cases hm
 ·unfold excClassObj at h2;simp only[_I,Obj.mk.injEq,Data.cls.injEq]at h2;obtain⟨_,_,h3,_⟩:=h2;have h4:cd'.mro=Value.ref C::bm:=by rw[<- h3]
  rw[h4]at hm;simpa using hm
end
theorem z3z{q:Ask}{w:World}{K:W.Frag}(e:z4C q K=valS q w)(x:Str)(hx:x∈q.xs):kW K x=true:=z1T (_aC (λz=>z.2.2.2.2.2.1) e) x hx
theorem zaP{q:Ask}{w:World}{K:W.Frag}(e:z4C q K=valS q w)(x y:Str)(b:Bool)(hx:((x,y),b)∈q.ps):kI K x y=some (some b,some b):=z1T (_aC (λz=>z.2.2.2.2.2.2) e) ((x,y),b) hx
theorem zbT{k:Nat}{A:Around}{e:Option Value}(r:wM k A):wM k (A.mark e):=⟨r.dp,r.un,r.gd⟩
def LeS(f g:FS):Prop:=∀Z s a s',f Z s=.ok a s'->g Z s=.ok a s'
def LeM(M N:Mir):Prop:=∀ds s d s',M ds s=.ok d s'->N ds s=.ok d s'
theorem LeS.rfl{f:FS}:LeS f f:=λ_ _ _ _ h=>h
theorem LeS.fNo{g:FS}:LeS fNo g:=λ_ _ _ _ h=>by cases h
theorem LeM.mof{N:List Str}{n:Nat}{f g:FS}(h:LeS f g):LeM (Mof N n f) (z2z N n g):=λds s d s' e=>by
 unfold Mof at e;unfold z2z;split at e
 ·rename_i hl;rw[_f hl];split at e
  ·rename_i d' s1 e1;rw[h _ _ _ _ e1];exact e
  ·rename_i Z s1 e1;rw[h _ _ _ _ e1];exact e
  ·cases e
 ·cases e
theorem z5I{α β:Type}{r:R α}{k:α->Sto->R β}{b:β}{s':Sto}(h:r.bind k=.ok b s'):∃a s1,r=.ok a s1/\k a s1=.ok b s':=by cases r with
 | ok a s=>exact⟨a,s,Eq.refl _,h⟩ | ex c s=>cases h | no=>cases h
theorem LeS.if_{t:FT}{f f' g g':FS}(h:LeS f f')(h2:LeS g g'):LeS (fIf t f g) (fIf t f' g'):=λZ s a s' e=>by
 obtain⟨d,s1,e1,e2⟩:=z5I e;show (t Z s).bind _=_;rw[e1,Rb];cases d with
 | true=>exact h _ _ _ _ e2 | false=>exact h2 _ _ _ _ e2
theorem LeM.ok{M N:Mir}(h:LeM M N){ds:List D}{s s':Sto}{d:D}(e:M ds s=.ok d s'):N ds s=.ok d s':=h ds s d s' e
end Dd
namespace PySem
end PySem
namespace L2
end L2
namespace Dd
open L2
open PySem.W
end Dd
namespace L2
open PySem.Builtin.Str
section
variable {X:Cx}{o e:Expr}{to te:TE}{apos cpos pos:Pos}
def zd1:V->Option Int->Option Int->Hp->VK->Prop:=λx lo hi H Q=>∃z i,x=.str z/\lo=some i/\hi=none/\z.length<=sizeLine/\Q (.str (Txt.slice z (some i) none)) H
theorem zaS:SlR X zd1:=by
 intro pins s O H x v vl vu lo hi sl Q I rx hs pl pu h;obtain⟨z,i,rfl,rfl,rfl,hz,q⟩:=h;obtain⟨t,rfl⟩:=rx;obtain⟨ob,ho,hc,hd⟩:=hs;cases pl with | int i ti=> cases pu with | none=>
   refine⟨"str",_,PySem.F.slot_str_getitem.lookup,_aM _ _ _,wpAny_getItem_str_slice (l:=some (i,ti)) (u:=none) (st:=none) ⟨ob,ho,hc,hd⟩ rfl (post_val_or_str ⟨_v (Txt.slice_le z _ _) hz,λt' k=>?_⟩)⟩;exact⟨.str (Txt.slice z (some i) none),H,I.tok _,⟨_,rfl⟩,q⟩
end
end L2
namespace Dd
open L2 PySem.Builtin.Str
section
variable {X:Cx}{E:XK}{o e v1 v2:Expr}{apos cpos dpos p1 p2 pos:Pos}{k1 k2:Str}{j1 j2:Nat}
theorem qf{mg:Gm}{H:Hp}{Y:List Addr}{z:Str}:Den mg H Y (.str z) (.str z):=by simp[Den]
def zcx(f:FE):FE:=λZ s=>(f Z s).bind λd s1=>match d with
 | .str z=>if tooLong (Txt.upper z).length=false then .ok (.str (Txt.upper z)) s1 else .no | _=>.no
def z6G(f:FE)(fl:FO):FE:=λZ s=>(f Z s).bind λd s1=>(fl Z s1).bind λlo s2=>match d,lo with
 | .str z,some i=>if z.length<=cap then .ok (.str (Txt.slice z (some i) none)) s2 else .no | _,_=>.no
theorem z02{lo:Option Expr}{p2:Pos}{fe:FE}{fl:FO}(he:RE X E e fe)(hl:RO X E lo fl):RE X E (.Subscript e (.Slice lo none none p2) pos) (z6G fe fl):= zF (z0m zaS he hl z2j) λO H Q ⟨Y,Z,s,r,en,h⟩=>by
  refine zX (k:=λZ d s1=>(fl Z s1).bind λlo s2=>match d,lo with | .str z,some i=>if z.length<=cap then R.ok (D.str (Txt.slice z (some i) none)) s2 else .no | _,_=>.no) r en h _ λv H1 Y1 s1 d r1 en1 dn stp h1=>?_;refine z0x (k:=λZ lo s2=>match d,lo with | .str z,some i=>if z.length<=cap then R.ok (D.str (Txt.slice z (some i) none)) s2 else .no | _,_=>.no) r1 en1 h1 _ λlo H2 Y2 s2 r2 en2 stp2 h2=>?_;cases d with
  | str z=>
   cases yb dn;cases lo with
   | none=>exact h2.elim | some i=>
    simp only at h2;split at h2
    ·rename_i hz;exact⟨z,i,rfl,rfl,rfl,xO hz,h2.here r2 qf⟩
    ·exact h2.elim
  | _=>cases lo<;>exact h2.elim
def yK:D->D->Sto->R D
 | .str a,.str b,s=>if a.length+b.length<=cap then .ok (.str (a++b)) s else .no | _,_,_=>.no
theorem vz:∃r,OpR X (binaryOp .Add) r/\OpF X E r yK:=by
 refine⟨_,z3B,?_⟩;intro H Y s d1 d2 v1 v2 Q r h1 h2 h;unfold yK at h;split at h
 ·rename_i a b;cases yb h1;cases yb h2;split at h
  ·rename_i hl;exact⟨a,b,rfl,rfl,xO hl,h.here r qf⟩
  ·exact h.elim
 ·exact h.elim
end
end Dd
namespace Dd
open L2
section
variable {X:Cx}{E:XK}{es:List Expr}{fa:FE}{fr:FA}
theorem aN{x:Str}{p:Pos}(ha:RE X E (.Name x p) fa)(hr:RA X E es fr):RA X E ((.Name x p)::es) (za fa fr):=wG ha hr (zk ..)
theorem aK{c:Const}{j:Nat}{p:Pos}(ha:RE X E (.Constant c j p) fa)(hr:RA X E es fr):RA X E ((.Constant c j p)::es) (za fa fr):=wG ha hr (kN ..)
theorem aQ{g:Expr}{xs:List Expr}{ks:List Keyword}{p:Pos}(ha:RE X E (.Call g xs ks p) fa)(hr:RA X E es fr):RA X E ((.Call g xs ks p)::es) (za fa fr):=wG ha hr (xr ..)
theorem aT{xs:List Expr}{k:Nat}{p:Pos}(ha:RE X E (.Tuple xs k p) fa)(hr:RA X E es fr):RA X E ((.Tuple xs k p)::es) (za fa fr):=wG ha hr (z37 ..)
theorem aS{a b:Expr}{p:Pos}(ha:RE X E (.Subscript a b p) fa)(hr:RA X E es fr):RA X E ((.Subscript a b p)::es) (za fa fr):=wG ha hr (z5U ..)
theorem aB{a b:Expr}{o:Operator}{p:Pos}(ha:RE X E (.BinOp a o b p) fa)(hr:RA X E es fr):RA X E ((.BinOp a o b p)::es) (za fa fr):=wG ha hr (z5P ..)
theorem aL{xs:List Expr}{p:Pos}(ha:RE X E (.List xs p) fa)(hr:RA X E es fr):RA X E ((.List xs p)::es) (za fa fr):=wG ha hr (z6h ..)
theorem aO{a:Expr}{g:List Comprehension}{sc:Scope}{p:Pos}(ha:RE X E (.ListComp a g sc p) fa)(hr:RA X E es fr):RA X E ((.ListComp a g sc p)::es) (za fa fr):=wG ha hr (wJ ..)
theorem aM{a:Expr}{o:List CmpOp}{b:List Expr}{p:Pos}(ha:RE X E (.Compare a o b p) fa)(hr:RA X E es fr):RA X E ((.Compare a o b p)::es) (za fa fr):=wG ha hr (z2O ..)
theorem aU{o:UnaryOp}{a:Expr}{p:Pos}(ha:RE X E (.UnaryOp o a p) fa)(hr:RA X E es fr):RA X E ((.UnaryOp o a p)::es) (za fa fr):=wG ha hr (z8g ..)
theorem xX {e:Expr} {pos:Pos} {CX:CXT} {x:Str} {p:Pos} {n k:Nat} {M:Mir} {f:FA} (F:Has X.prog X.w X.K X.mg X.base CX x n M) (hr:qO k X.A) (hx:Passes CX X E) (ha:RA X E (e::es) f) (hk:n<=k:=by decide) (hg:Gl X x:=by rfl) (hdb:(x==("__debug__":Str))=false:=by decide) (he:starEach (e::es) X.env=(false,eval e X.env)::starEach es X.env:=by rfl) (hpl:(backTo pos (starEach es X.env)).any (·.1)=false:=by rfl):RE X E (.Call (.Name x p) (e::es) [] pos) (zf M f):=z5f F (hr.mono hk) hx hg ha hdb he hpl
end
section
variable {q:Ask}{w:World}{K:W.Frag}{h:Heap}{mg:Str->Option Value}
theorem yy(X:K.In h)(G:h.Ns mainGlobals mg)(e:z4C q K=valS q w)(i:Nat){x:Str}{st:Stmt}(hx:q.fs[i]? = some (x,st)):∃f fd,mg x=some (.ref f)/\Fun K x x st f fd:=let ⟨f,fd,a,F⟩:=zc1 e x st (_r hx);⟨f,fd,W.mg_of X G a,F⟩
theorem wE(X:K.In h)(G:h.Ns mainGlobals mg)(e:z4C q K=valS q w)(i:Nat){x:Str}(hx:q.bs[i]? = some x):mg x=none:=W.mg_none_of X G (zbp e x (_r hx))
theorem z70(X:K.In h)(G:h.Ns mainGlobals mg)(e:z4C q K=valS q w)(i:Nat){x:Str}{c:Int}(hx:q.cs[i]? = some (x,c)):∃t,mg x=some (.int c t):=let ⟨t,z⟩:=zc7 e x c (_r hx);⟨t,W.mg_of X G z⟩
end
open PySem.W
end Dd
namespace Dd
open L2
section
variable {X:Cx}{E:XK}{e:Expr}{pos pos':Pos}
def zcd(i:Nat)(f:FE):FS:=λZ s=>match Z[i]? with
 | some (some (.int a))=>(f Z s).bind λd s1=>match d with | .int b=>.ok (.nx (Z.set i (some (.int (a+b))))) s1 | _=>.no
 | _=>.no
@[simp] theorem zcs {i:Nat}{f:FE}{Z:Ev}{s:Sto}{a b:Int}{s1:Sto}(h:Z[i]? = some (some (.int a)))(hf:f Z s=.ok (.int b) s1):zcd i f Z s=.ok (.nx (Z.set i (some (.int (a+b))))) s1:=by simp only[zcd,h,hf,Rb]
end
open PySem.W
end Dd
namespace Dd
open L2
end Dd
namespace L2
end L2
namespace Dd
open L2
end Dd
namespace L2
open PySem.Builtin.Str
variable {X:Cx}
def zc5:V->Option Int->Option Int->Hp->VK->Prop:=λx lo hi H Q=>∃z i,x=.str z/\lo=none/\hi=some i/\z.length<=sizeLine/\Q (.str (Txt.slice z none (some i))) H
theorem z8x:SlR X zc5:=by
 intro pins s O H x v vl vu lo hi sl Q I rx hs pl pu h;obtain⟨z,i,rfl,rfl,rfl,hz,q⟩:=h;obtain⟨t,rfl⟩:=rx;obtain⟨ob,ho,hc,hd⟩:=hs;cases pu with | int i ti=> cases pl with | none=>
   refine⟨"str",_,PySem.F.slot_str_getitem.lookup,_aM _ _ _,wpAny_getItem_str_slice (l:=none) (u:=some (i,ti)) (st:=none) ⟨ob,ho,hc,hd⟩ rfl (post_val_or_str ⟨_v (Txt.slice_le z _ _) hz,λt' k=>?_⟩)⟩;exact⟨.str (Txt.slice z none (some i)),H,I.tok _,⟨_,rfl⟩,q⟩
theorem z4z:yB X (.builtin "len") (λxs H Q=>∃z:Str,xs=[.str z]/\z.length<=sizeLine/\Q (.int z.length) H):=by
 intro pins s O H xs us Q I rs ⟨z,e,hz,q⟩;subst e;obtain⟨u,rfl,t,rfl⟩:=vals1 rs;exact P.len_str (by have:z.length<=2 ^ 40:=_v hz (by decide);omega) ⟨.int z.length,H,I.tok _,⟨_,rfl⟩,q⟩
end L2
namespace Dd
open L2 PySem.Builtin.Str
section
variable {X:Cx}{E:XK}{a b e:Expr}{pos:Pos}
def z5r(f:FE)(fh:FO):FE:=λZ s=>(f Z s).bind λd s1=>(fh Z s1).bind λhi s2=>match d,hi with
 | .str z,some i=>if z.length<=cap then .ok (.str (Txt.slice z none (some i))) s2 else .no | _,_=>.no
theorem z0s{hi:Option Expr}{p2:Pos}{fe:FE}{fh:FO}(he:RE X E e fe)(hl:RO X E hi fh):RE X E (.Subscript e (.Slice none hi none p2) pos) (z5r fe fh):= zF (z0m z8x he z2j hl) λO H Q ⟨Y,Z,s,r,en,h⟩=>by
  refine zX (k:=λZ d s1=>(fh Z s1).bind λhi s2=>match d,hi with | .str z,some i=>if z.length<=cap then R.ok (D.str (Txt.slice z none (some i))) s2 else .no | _,_=>.no) r en h _ λv H1 Y1 s1 d r1 en1 dn stp h1=>?_;refine z0x (k:=λZ hi s2=>match d,hi with | .str z,some i=>if z.length<=cap then R.ok (D.str (Txt.slice z none (some i))) s2 else .no | _,_=>.no) r1 en1 h1 _ λlo H2 Y2 s2 r2 en2 stp2 h2=>?_;cases d with
  | str z=>
   cases yb dn;cases lo with
   | none=>exact h2.elim | some i=>
    simp only at h2;split at h2
    ·rename_i hz;exact⟨z,i,rfl,rfl,rfl,xO hz,h2.here r2 qf⟩
    ·exact h2.elim
  | _=>cases lo<;>exact h2.elim
def z1w:D->D->Sto->R D
 | .str z,.int i,s=>if z.length<=cap then match atI z.cps.toList i with | some c=>.ok (.str ⟨#[c]⟩) s | none=>.no else .no | _,_,_=>.no
theorem z5g{fa fb:FE}(ha:RE X E a fa)(hb:RE X E b fb)(hs:z2n b:=by intro _ _;rfl):RE X E (.Subscript a b pos) (eOp z1w fa fb):=by
 refine zF (z9M z9V ha hb hs) λO H Q h=>z1R (λH Y s d1 d2 v1 v2 Q r h1 h2 h=>?_) h;unfold z1w at h;split at h
 ·split at h
  ·rename_i z i hz;split at h
   ·rename_i c e;cases yb h1;cases yp h2;exact⟨z,i,c,rfl,rfl,xO hz,e,h.here r qf⟩
   ·exact h.elim
  ·exact h.elim
 ·exact h.elim
def z05:List D->Sto->R D
 | [.str z],s=>if z.length<=cap then .ok (.int z.length) s else .no | _,_=>.no
theorem z7d:∃r,yB X (.builtin "len") r/\uN X E r z05:=⟨_,z4z,λH Y s ds vs Q r hd h=>by
 unfold z05 at h;split at h
 ·split at h
  ·rename_i z hz;obtain⟨v,rfl,dn⟩:=qJ hd;cases yb dn;exact⟨z,rfl,xO hz,h.here r yd⟩
  ·exact h.elim
 ·exact h.elim⟩
end
end Dd
namespace Zz
end Zz
namespace L2
open Zz
end L2
namespace Dd
open L2
def lexN:List Int->List Int->Bool
 | [],[]=>false | [],_::_=>true | _::_,[]=>false | x::a,y::b=>if x=y then lexN a b else decide (x<y)
end Dd
namespace L2
end L2
namespace Dd
open L2
end Dd
namespace L2
end L2
namespace Dd
open L2
end Dd
namespace L2
end L2
namespace Dd
open L2
end Dd
namespace L2
def n3(a b c:Int):Nat:=if a<b then ((b-a-1) / c+1).toNat else 0
end L2
namespace Dd
open L2
open PySem.W
section
end
end Dd
namespace Dd
open L2
end Dd
namespace L2
open Dd
end L2
namespace Dd
open L2
end Dd
namespace Pg
open L2 Dd
@[simp] def z1I:FS:=(xV (z43 (eIs "int" (zc 0)) (zb2 (eIs "bool" (zc 0)))))
def ul:FS:=z1I
def yN:Mir:=Mof ["thing"] 1 ul
@[simp] def z1W:FS:=(xV (z43 (eIs "tuple" (zc 0)) (z3t dLe dLe (eC (.int 2)) (zf wb (za (zc 0) zj)) (eC (.int 4)))))
def xT:FS:=z1W
def zR:Mir:=Mof ["thing"] 1 xT
@[simp] def km:FS:=(xV (eC (.bl false)))
@[simp] def ku:FS:=(fIf (fOr (kg (tOf (eIs "tuple" (zc 0)))) (tOf (eOp dNe (zf wb (za (zc 0) zj)) (zc 1)))) km yO)
@[simp] def uf:FS:=(xV (zf z44 (za (yE (xu (zc 0)) [none] (wa 0) vR (zf yN (za (zc 0) zj))) zj)))
def vb:FS:=(zM ku uf)
def zP:Mir:=Mof ["thing","many"] 2 vb
@[simp] def z42:FS:=(xV (eC (.bl false)))
@[simp] def z41:FS:=(fIf (fOr (kg (tOf (zf zR (za (zc 0) zj)))) (kg (tOf (zf zP (za (zc 0) (za (zf wb (za (zc 0) zj)) zj)))))) z42 yO)
@[simp] def z3E:FS:=(xV (z43 (eOp dGe (zf z27 (za (zc 0) zj)) (eC (.int 0))) (eOp dGt (zf uO (za (zc 0) zj)) (eC (.int 0)))))
def xN:FS:=(zM z41 z3E)
def zx:Mir:=Mof ["thing"] 1 xN
@[simp] def z0X:FS:=fNo
@[simp] def z1p:FS:=(fIf (kg (tOf (zf zx (za (zc 0) zj)))) z0X yO)
def jR:FS:=z1p
def vU:Mir:=Mof ["thing"] 1 jR
@[simp] def z0B:FS:=(fIf (kg (tOf (zf zx (za (zc 0) zj)))) (z3f "NoLot") yO)
def qj:FS:=z0B
def xh:Mir:=z2z ["thing"] 1 qj
@[simp] def qH:FS:=(xV (eOp dIx (zc 0) (zc 1)))
@[simp] def qS:FS:=(fIf (tOf (eOp dLt (zc 1) (zf wb (za (zc 0) zj)))) qH yO)
@[simp] def qI:FS:=(xV (eC (.int 0)))
def xQ:FS:=(zM qS qI)
def ym:Mir:=Mof ["_law_script","_law_k"] 2 xQ
@[simp] def z1x:FS:=(xV (z8R (za (eOp zbf (zc 0) (eOp z3M (eC (.int 10)) (eC (.int 18)))) zj)))
@[simp] def z1E:FS:=(fIf (tOf (eOp dGe (zc 0) (eOp z3M (eC (.int 10)) (eC (.int 18))))) z1x yO)
@[simp] def z1U:FS:=(wA 1 (eC (.int 0)))
@[simp] def qt:FS:=(wA 3 (eOp z3c (eOp wx (eOp xy (eOp xy (eOp z3c (zc 0) (eC (.int 2147483629))) (eOp wx (eC (.int 7919)) (zc 2))) (eC (.int 1))) (eC (.int 48271))) (eC (.int 2147483647))))
@[simp] def qk:FS:=(wA 3 (eOp z3c (eOp xy (eOp xy (eOp wx (zc 3) (zc 3)) (eOp wx (eC (.int 69621)) (zc 2))) (eC (.int 7))) (eC (.int 2147483587))))
@[simp] def qw:FS:=(wA 1 (eOp xy (eOp wx (zc 1) (eC (.int 2147483587))) (zc 3)))
@[simp] def qr:FS:=(z4t (z7r (za (eC (.int 64)) zj)) (wa 2) (zM qt (zM qk qw)))
@[simp] def z1D:FS:=(xV (z8R (za (zc 1) zj)))
def uo:FS:=(zM z1E (zM z1U (zM qr z1D)))
def xK:Mir:=Mof ["_law_cell","_law_number","_law_j","_law_more"] 1 uo
@[simp] def z0J:FS:=(wA 2 (eOp z3c (eOp dIx (zc 0) (eC (.int 0))) (zc 1)))
@[simp] def kY:FS:=(z1q (zc 0) (eC (.int 0)) (eOp z3F (eOp dIx (zc 0) (eC (.int 0))) (zc 1)))
@[simp] def kZ:FS:=(xV (zc 2))
def qA:FS:=(zM z0J (zM kY kZ))
def zg:Mir:=Mof ["_law_pot_here","_law_far","_law_found"] 2 qA
@[simp] def kw:FS:=(xV (z43 (eIs "int" (zc 0)) (zb2 (eIs "bool" (zc 0)))))
def uF:FS:=kw
def zZ:Mir:=Mof ["_law_thing"] 1 uF
@[simp] def jH:FS:=(xV (eC (.bl false)))
@[simp] def vL:FS:=(fIf (fOr (kg (tOf (eIs "tuple" (zc 0)))) (tOf (eOp (z7o true) (zf wb (za (zc 0) zj)) (jM (za (eC (.int 2)) (za (eC (.int 3)) (za (eC (.int 4)) zj))))))) jH yO)
@[simp] def jX:FS:=(xV (eC (.bl false)))
@[simp] def yA:FS:=(fIf (fOr (kg (tOf (zf zZ (za (zc 1) zj)))) (tOf (eOp dLt (zc 1) (eC (.int 0))))) jX yO)
@[simp] def yw:FS:=(z4t (xu (zc 0)) (wa 1) yA)
@[simp] def yZ:FS:=(xV (eOp dGt (zf uO (za (zc 0) zj)) (eC (.int 0))))
def xl:FS:=(zM vL (zM yw yZ))
def zE:Mir:=Mof ["_law_thing","_law_number"] 1 xl
@[simp] def vP:FS:=(wA 1 (eOp xy (eC (.int 2)) (zf zg (za (zc 0) (za (eC (.int 3)) zj)))))
@[simp] def vJ:FS:=(wA 2 (eOp dIx (vd (za (eC (.int 13)) (za (eC (.int 1000)) (za (eOp z3M (eC (.int 10)) (eC (.int 6))) (za (eOp z3M (eC (.int 10)) (eC (.int 30))) (za (eC (.int 3)) (za (eC (.int 60)) zj))))))) (zf zg (za (zc 0) (za (eC (.int 6)) zj)))))
@[simp] def vI:FS:=(wA 3 (zf zg (za (zc 0) (za (eC (.int 4)) zj))))
@[simp] def vN:FS:=(wA 4 (z8R zj))
@[simp] def wm:FS:=(wA 6 (eOp xy (zf zg (za (zc 0) (za (zc 2) zj))) (eC (.int 1))))
@[simp] def wv:FS:=(z2q (z8Q (zc 4) (eOp wx (zc 6) (zf z8N (za (eOp dGe (zf zg (za (zc 0) (za (eC (.int 4)) zj))) (zc 3)) zj)))))
@[simp] def vE:FS:=(z4t (z7r (za (zc 1) zj)) (wa 5) (zM wm wv))
@[simp] def qg:FS:=(z1q (zc 4) (zf zg (za (zc 0) (za (zc 1) zj))) (eOp xy (eC (.int 1)) (zf zg (za (zc 0) (za (zc 2) zj)))))
@[simp] def wn:FS:=(fIf (tOf (eOp dEq (zf uO (za (zc 4) zj)) (eC (.int 0)))) qg yO)
@[simp] def vm:FS:=(wA 7 (eOp xy (eC (.int 1)) (zf zg (za (zc 0) (za (eC (.int 12)) zj)))))
@[simp] def ux:FS:=(z1q (zc 4) (zf zg (za (zc 0) (za (zc 1) zj))) (eOp dIx (zc 4) (zf zg (za (zc 0) (za (zc 1) zj)))))
@[simp] def xJ:FS:=(fIf (tOf (eOp dEq (zf zg (za (zc 0) (za (eC (.int 3)) zj))) (eC (.int 0)))) ux yO)
@[simp] def uy:FS:=(z1q (zc 4) (eC (.int 0)) (eC (.int 1)))
@[simp] def xG:FS:=(fIf (tOf (eOp dEq (zf uO (za (zc 4) zj)) (eC (.int 0)))) uy yO)
@[simp] def uM:FS:=(xV (zf uc (za (yE (xu (zc 4)) [some 7,none] (wa 1) vR (eOp wx (zc 1) (zc 0))) zj)))
def jJ:FS:=(zM vP (zM vJ (zM vI (zM vN (zM vE (zM wn (zM vm (zM xJ (zM xG uM)))))))))
def wL:Mir:=z3U (Mof ["_law_pot_here","_law_size","_law_far","_law_thin","_law_numbers","_law_place","_law_number","_law_more"] 1 jJ)
@[simp] def qp:FS:=(wA 1 (vd (za (eC .non) (za (eC (.bl true)) (za (eC (.bl false)) (za (zc4 (eC (.int 1))) (za (eC (.int 0)) (za (eC (.int 7)) (za (eOp z3M (eC (.int 10)) (eC (.int 30))) (za (eC (.str "")) (za (eC (.str "1:0")) (za (jM zj) (za (jM (za (eC (.int 0)) (za (eC (.int 0)) zj))) (za (jM (za (eC (.int 1)) zj)) (za (vd (za (eC (.int 1)) (za (eC (.int 0)) zj))) (za (eC .dct) zj))))))))))))))))
@[simp] def qh:FS:=(xV (eOp dIx (eOp xy (zc 1) (vd (za (jM (za (jM (za (eC (.int 1)) (za (eC (.int 0)) zj))) (za (jM (za (eC (.int 0)) (za (eC (.int 1)) zj))) zj))) (za (jM (za (eC (.bl true)) (za (eC (.int 2)) zj))) zj)))) (zf zg (za (zc 0) (za (eC (.int 16)) zj)))))
def jZ:FS:=(zM qp qh)
def xg:Mir:=Mof ["_law_pot_here","_law_some"] 1 jZ
@[simp] def z03 (Mr:Mir):FS:=(xV (eC (.bl false)))
@[simp] def uQ (Mr:Mir):FS:=(fIf (fOr (tOf (eOp dNe (eIs "list" (zc 1)) (eIs "list" (zc 0)))) (tOf (eOp dNe (eIs "tuple" (zc 1)) (eIs "tuple" (zc 0))))) (z03 Mr) yO)
@[simp] def vc (Mr:Mir):FS:=(xV (z43 (eOp dEq (zf wb (za (zc 0) zj)) (zf wb (za (zc 1) zj))) (zf z44 (za (yE (z8S (za (zc 0) (za (zc 1) zj))) [none,none] (z3Q 0 1) vR (zf Mr (za (zc 0) (za (zc 1) zj)))) zj))))
@[simp] def wW (Mr:Mir):FS:=(fIf (tOf (z75 "list" "tuple" (zc 1))) (zM (uQ Mr) (vc Mr)) yO)
@[simp] def z0F (Mr:Mir):FS:=(xV (z43 (eOp dEq (zc 0) (zc 1)) (eOp dEq (eIs "bool" (zc 0)) (eIs "bool" (zc 1)))))
@[simp] def z0C (Mr:Mir):FS:=(fIf (fOr (tOf (eOp dIs (zc 1) (eC .non))) (fOr (tOf (eIs "bool" (zc 1))) (tOf (eIs "str" (zc 1))))) (z0F Mr) yO)
@[simp] def z09 (Mr:Mir):FS:=(xV (z43 (zf zZ (za (zc 0) zj)) (eOp dEq (zc 0) (zc 1))))
def yM(Mr:Mir):FS:=(zM (wW Mr) (zM (z0C Mr) (z09 Mr)))
def zr:Nat->Mir
 | 0=>λ_ _=>.no | k+1=>Mof ["_law_found","_law_due"] 2 (yM (zr k))
@[simp] def ja (Mr:Mir):FS:=(xV (eC (.bl false)))
@[simp] def qX (Mr:Mir):FS:=(fIf (fOr (tOf (eOp dNe (eIs "list" (zc 1)) (eIs "list" (zc 0)))) (tOf (eOp dNe (eIs "tuple" (zc 1)) (eIs "tuple" (zc 0))))) (ja Mr) yO)
@[simp] def qQ (Mr:Mir):FS:=(xV (z43 (eOp dEq (zf wb (za (zc 0) zj)) (zf wb (za (zc 1) zj))) (zf z44 (za (yE (z8S (za (zc 0) (za (zc 1) zj))) [none,none] (z3Q 0 1) vR (zf Mr (za (zc 0) (za (zc 1) zj)))) zj))))
@[simp] def qZ (Mr:Mir):FS:=(fIf (tOf (z75 "list" "tuple" (zc 1))) (zM (qX Mr) (qQ Mr)) yO)
@[simp] def qP (Mr:Mir):FS:=(xV (z43 (eOp dEq (zc 0) (zc 1)) (eOp dEq (eIs "bool" (zc 0)) (eIs "bool" (zc 1)))))
@[simp] def qK (Mr:Mir):FS:=(fIf (fOr (tOf (eOp dIs (zc 1) (eC .non))) (fOr (tOf (eIs "bool" (zc 1))) (tOf (eIs "str" (zc 1))))) (qP Mr) yO)
@[simp] def qW (Mr:Mir):FS:=(xV (z43 (zf zZ (za (zc 0) zj)) (eOp dEq (zc 0) (zc 1))))
def vM(Mr:Mir):FS:=(zM (qZ Mr) (zM (qK Mr) (qW Mr)))
def zV:Nat->Mir
 | 0=>λ_ _=>.no | k+1=>Mof ["_law_found","_law_due_here"] 2 (vM (zV k))
def zQ:Mir:=zV 4
end Pg
namespace Dd
open L2
end Dd
namespace L2
open Dd Zz
end L2
namespace Dd
open L2
end Dd
set_option maxRecDepth 1000000
set_option maxHeartbeats 4000000
namespace Pm
end Pm
set_option maxRecDepth 1000000
set_option maxHeartbeats 40000000
namespace Pm
end Pm
set_option maxRecDepth 1000000
set_option maxHeartbeats 40000000
namespace Pm
abbrev Sz(n:Nat):Prop:=n=2\/n=3\/n=4
open L2 (maxL minL maxL_ge maxL_mem minL_le minL_mem)
structure Lot(n:Nat)(v:List Int):Prop where
 sz:Sz n
 len:v.length=n
 nn:∀x∈v,0<=x
 pos:∃x∈v,0<x
theorem Lot.ne{n:Nat}{v:List Int}(h:Lot n v):v≠[]:=λz=>by
 obtain⟨x,hx,_⟩:=h.pos;rw[z]at hx;simp at hx
def scl(k:Int)(v:List Int):List Int:=v.map λx=>x*k
section
variable {k:Int}(hk:0<k)
include hk
theorem z7K{x y:Int}:x*k=y*k ↔ x=y:=⟨λh=>Int.eq_of_mul_eq_mul_right (by omega) h,λh=>by rw[h]⟩
theorem z8D{x:Int}{v:List Int}:x*k∈scl k v ↔ x∈v:=by
 unfold scl;rw[_L];exact⟨λ⟨y,hy,e⟩=>by rw[<- (z7K hk).mp e];exact hy,λh=>⟨x,h,rfl⟩⟩
theorem z8A(v:List Int):(scl k v).length=v.length:=by simp[scl]
end
open Dd (lexN)
end Pm
namespace Pg
open L2 Dd Pm
abbrev iL(ns:List Int):List D:=ns.map D.int
theorem z30{a b:Int}(s:Sto)(hb:0<b):z3c (.int a) (.int b) s=.ok (.int (a % b)) s:=by rw[z6L,_f hb]
theorem z5Q{xs:List D}(s:Sto)(h:∀x∈xs,x=.bl true):z44 [.lst xs] s=.ok (.bl true) s:=by
 have e:xs=(xs.map λ_=>true).map D.bl:=by
  rw[_bN];conv=>lhs;rw[<- List.map_id xs]
  exact _bc λx hx=>h x hx
 have b:bools xs=some (xs.map λ_=>true):=by
  conv=>lhs;rw[e]
  exact z14 _
 simp[z44,zU,b]
theorem z4P{ns:List Int}(s:Sto)(h:ns≠[]):uO [.tup (iL ns)] s=.ok (.int (maxL ns)) s:=by cases ns with
 | nil=>exact absurd rfl h | cons n ns=>simp only[uO,zU,_Z,qa]
theorem z72{ns:List Int}(s:Sto)(h:ns≠[]):z27 [.tup (iL ns)] s=.ok (.int (minL ns)) s:=by cases ns with
 | nil=>exact absurd rfl h | cons n ns=>simp only[z27,zU,_Z,qa]
theorem z60{ns:List Int}{l:Nat}{s:Sto}(h:ns≠[])(e:s[l]? = some (iL ns)):uO [.loc l] s=.ok (.int (maxL ns)) s:=by cases ns with
 | nil=>exact absurd rfl h | cons n ns=>simp only[uO,zU,e,_Z,qa]
theorem z3T(i:Int)(s:Sto):yN [.int i] s=.ok (.bl true) s:=by simp[yN,Mof,ul,zt,gIs,tyD,isT]
theorem kL(xs:List D)(s:Sto)(h:2<=xs.length/\xs.length<=4):zR [.tup xs] s=.ok (.bl true) s:=by
 have h1:(2:Int)<=xs.length:=by omega
 have h2:(xs.length:Int)<=4:=by omega
 simp[zR,Mof,xT,zt,gIs,tyD,isT,wb,zU,h1,h2]
theorem z10 (ns:List Int) (s:Sto) (h:ns.length<=1000):zP [.tup (iL ns),.int ns.length] s=.ok (.bl true) s:=by
 simp[zP,Mof,vb,zt,gIs,tyD,isT,wb,zU];rw[z19 (λ_=>D.bl true) (iL ns) [] (by intro x hx;obtain⟨n,_,rfl⟩:=_L.mp hx;simp[z3T]) (by simp[cap];omega)];simp only[Rb,List.nil_append];rw[z5Q s (by intro x hx;obtain⟨_,_,rfl⟩:=_L.mp hx;rfl)];simp
abbrev rD(r:List Int):D:=.tup (iL r)
theorem z6X{n:Nat}{ar:FA}{Z:Ev}{s s1:Sto}(hn:n<=1000)(h:ar Z s=.ok [.int n] s1):z7r ar Z s=.ok (yL n,[]) s1:=by
 have c62:-(2 ^ 62)<=(n:Int)/\(n:Int)<2 ^ 62:=by omega
 rw[za8,h,Rb];simp only;rw[_f c62,_aS]
theorem z4o(xs:List D)(i:Nat)(s:Sto):dSl (.tup xs) none (some (i:Int)) s=.ok (.tup (xs.take i)) s:=by
 have e:Dd.cutD xs none (some (i:Int))=xs.take i:=by
  unfold Dd.cutD;rw[HT.z2Z,HT.z4E];simp[List.take_eq_take_min]
 simp only[dSl,e]
theorem z57(xs:List D)(i:Nat)(s:Sto):dSl (.tup xs) (some (i:Int)) none s=.ok (.tup (xs.drop i)) s:=by
 have e:Dd.cutD xs (some (i:Int)) none=xs.drop i:=by
  unfold Dd.cutD;rw[HT.z2Z,HT.z4E];by_cases h:i<=xs.length
  ·rw[Nat.min_eq_left h];exact List.take_of_length_le (by simp)
  ·rw[Nat.min_eq_right (by omega)];simp[List.drop_of_length_le (show xs.length<=i by omega)]
 simp only[dSl,e]
theorem jE{α:Type}{all:List D}{s:Sto}{body:D->Sto->R (Option D)}(g f:α->D)(p:α->Bool):∀(l:List α)(acc:List D),(∀a∈l,body (g a) s=.ok (if p a=true then some (f a) else none) s)->acc.length+l.length<=cap->vX [] all body (l.map g) acc s=.ok (acc++(l.filter p).map f) s
 | [],acc,_,_=>by simp[vX,okG] | x::xs,acc,hb,hl=>by
  have og:okG [] all s:=by intro p hp;simp at hp
  rw[_N,vX,_f og,hb x (by simp)];cases hp:p x with
  | true=>
   have ih:=jE (all:=all) g f p xs (acc++[f x]) (λy hy=>hb y (by simp[hy])) (by simp at hl ⊢;omega);have hc:acc.length<cap:=by simp at hl;omega
   simp[hc,ih,hp] | false=>
   have ih:=jE (all:=all) g f p xs acc (λy hy=>hb y (by simp[hy])) (by simp at hl ⊢;omega);simp[ih,hp]
theorem jj{α:Type}{fi:FI}{mp:List (Option Nat)}{fg:FG}{ft:FT}{fe:FE}{Z:Ev}{s:Sto}(g f:α->D)(p:α->Bool)(ev:α->Ev)(l:List α) (hi:fi Z s=.ok (l.map g,[]) s)(hg:∀a∈l,fg (g a) (xY mp Z) s=.ok (ev a) s)(ht:∀a∈l,ft (ev a) s=.ok (p a) s)(he:∀a∈l,p a=true->fe (ev a) s=.ok (f a) s)(hl:l.length<=cap): yE fi mp fg ft fe Z s=.ok (.lst ((l.filter p).map f)) s:=by
 rw[z3q,z5c,hi,Rb];rw[jE g f p l [] (by
  intro a ha;simp only[hg a ha,ht a ha,Rb];cases hp:p a with
  | true=>simp[he a ha hp] | false=>simp) (by simpa using hl)];rfl
theorem comp_map{α:Type}{fi:FI}{mp:List (Option Nat)}{fg:FG}{fe:FE}{Z:Ev}{s:Sto}(g f:α->D)(ev:α->Ev)(l:List α) (hi:fi Z s=.ok (l.map g,[]) s)(hg:∀a∈l,fg (g a) (xY mp Z) s=.ok (ev a) s)(he:∀a∈l,fe (ev a) s=.ok (f a) s)(hl:l.length<=cap): yE fi mp fg vR fe Z s=.ok (.lst (l.map f)) s:=by
 have:=jj (ft:=vR) g f (λ_=>true) ev l hi hg (λa _=>rfl) (λa ha _=>he a ha) hl;rw[show l.filter (λ_=>true)=l from List.filter_eq_self.mpr (by simp)]at this;exact this
theorem z6w{f:FE}{Z:Ev}{s:Sto}{xs:List D}(h:f Z s=.ok (.tup xs) s):xu f Z s=.ok (xs,[]) s:=by simp[h]
theorem jh{f:FE}{Z:Ev}{s:Sto}{xs:List D}(h:f Z s=.ok (.lst xs) s):xu f Z s=.ok (xs,[]) s:=by simp[h]
structure z7g(n m:Nat)(v:List Int):Prop extends Lot n v where bd:∀x∈v,x<2 ^ m
theorem z7g.abs{n m:Nat}{v:List Int}(h:z7g n m v):∀x∈v,x.natAbs<2 ^ m:=λx hx=>by
 have h1:=h.bd x hx;have h2:=h.nn x hx;have e:(x.natAbs:Int)=x:=Int.natAbs_of_nonneg h2;have:(x.natAbs:Int)<((2 ^ m:Nat):Int):=by rw[e];simpa using h1
 omega
theorem _root_.Pm.Lot.le4{n:Nat}{v:List Int}(h:Lot n v):v.length<=4/\2<=v.length:=by have:=h.len;have:=h.sz;omega
theorem z0r{n:Nat}{v:List Int}(h:Lot n v)(s:Sto):zx [rD v] s=.ok (.bl true) s:=by
 have l4:=h.le4;have h1:=kL (iL v) s (by simp;omega);have h2:=z10 v s (by omega);have g1:=z4P s h.ne;have g2:=z72 s h.ne;have mn:0<=minL v:=h.nn _ (minL_mem h.ne);have mx:0<maxL v:=by obtain⟨x,hx,h0⟩:=h.pos;have:=maxL_ge (xs:=v) x hx;omega
 have gl:wb [rD v] s=.ok (.int v.length) s:=by simp[wb,zU]
 have key:∀d:D,zR [d] s=.ok (.bl true) s->wb [d] s=.ok (.int v.length) s->zP [d,.int v.length] s=.ok (.bl true) s->uO [d] s=.ok (.int (maxL v)) s->z27 [d] s=.ok (.int (minL v)) s->zx [d] s=.ok (.bl true) s:=λd a1 a2 a3 a4 a5=>by simp[zx,Mof,xN,zt,a1,a2,a3,a4,a5,mn,mx]
 exact key _ h1 gl h2 g1 g2
theorem z3L{n:Nat}{v:List Int}(h:Lot n v)(s:Sto):vU [rD v] s=.ok .non s:=by
 have h1:=z0r h s;have key:∀d:D,zx [d] s=.ok (.bl true) s->vU [d] s=.ok .non s:=λd a1=>by simp[vU,Mof,jR,zt,a1]
 exact key _ h1
end Pg
namespace Pm
open L2 (maxL minL maxL_ge maxL_mem minL_le minL_mem n3)
end Pm
namespace Pg
open L2 Dd Pm
theorem z52(x:List D)(s:Sto):uc [.lst x] s=.ok (.tup x) s:=by simp[uc,zU]
theorem yG{M:Mir}{f:FE}{Z:Ev}{s:Sto}{x:D}(h:f Z s=.ok x s):zf M (za f zj) Z s=M [x] s:=by simp only[qd,zy,xB,h,Rb]
theorem call2{M:Mir}{f g:FE}{Z:Ev}{s:Sto}{x y:D}(h:f Z s=.ok x s)(h2:g Z s=.ok y s):zf M (za f (za g zj)) Z s=M [x,y] s:=by simp only[qd,zy,xB,h,h2,Rb]
theorem op2{o:D->D->Sto->R D}{f g:FE}{Z:Ev}{s:Sto}{x y:D}(h:f Z s=.ok x s)(h2:g Z s=.ok y s):eOp o f g Z s=o x y s:=by simp only[wD,h,h2,Rb]
theorem z5d{i:Int}(h0:0<=i)(h:i<2 ^ 2000):i.natAbs<BIG:=by
 have e:(i.natAbs:Int)=i:=Int.natAbs_of_nonneg h0;have k:(2:Int) ^ 2000<=(BIG:Int):=by decide +kernel
 exact Int.ofNat_lt.mp (Int.lt_of_lt_of_le (by rw[e];exact h) k)
theorem uv{a b:Int}(s:Sto)(ha:0<=a)(ha':a<2 ^ 2000)(hb:0<=b)(hb':b<2 ^ 2000):wx (.int a) (.int b) s=.ok (.int (a*b)) s:=by rw[z6M,_f ⟨z5d ha ha',z5d hb hb'⟩]
theorem z4F{a b:Int}(s:Sto)(hb:0<b)(hb':b<2 ^ 2000):z3F (.int a) (.int b) s=.ok (.int (a / b)) s:=by rw[z84,_f ⟨hb,z5d (by omega) hb'⟩]
theorem z9p(ns:List Int)(k:Nat)(s:Sto):∃c,ym [.scr (iL ns),.int k] s=.ok (.int c) s:=by
 by_cases h:k<ns.length
 ·have hk:(k:Int)<ns.length:=by omega
  refine⟨ns[k],?_⟩;have e:ixN (iL ns).length (k:Int)=some k:=by
   unfold ixN;rw[_f (by omega),_f (by simpa using hk)];simp
  have ix:dIx (.scr (iL ns)) (.int k) s=.ok (.int ns[k]) s:=by
   simp only[dIx,zU,atI,e,_Z];simp[h]
  simp only[iL]at ix;simp[ym,Mof,xQ,zt,wb,zU,hk,ix]
 ·have hk:¬ (k:Int)<ns.length:=by omega
  exact⟨0,by simp[ym,Mof,xQ,zt,wb,zU,hk]⟩
def Pot(s:Sto)(l:Nat):Prop:=∃p:Int,s[l]? = some [.int p]
theorem Pot.lt{s:Sto}{l:Nat}(h:Pot s l):l<s.length:=by
 obtain⟨p,e⟩:=h;exact (_b.mp e).1
theorem Pot.app{s:Sto}{l:Nat}(h:Pot s l)(t:Sto):Pot (s++t) l:=by
 obtain⟨p,e⟩:=h;exact⟨p,by rw[_p (_b.mp e).1];exact e⟩
structure xc(s s':Sto)(l:Nat):Prop where
 pot:Pot s' l
 len:s'.length=s.length
 oth:∀m,m≠l->s'[m]? = s[m]?
theorem zav{s:Sto}{l:Nat}{far:Int}(h:Pot s l)(h0:0<far)(h1:far<2 ^ 2000):∃r s',zg [.loc l,.int far] s=.ok (.int r) s'/\0<=r/\r<far/\xc s s' l:=by
 obtain⟨p,e⟩:=h;have hl:l<s.length:=(_b.mp e).1;refine⟨p % far,s.set l [.int (p / far)],?_,_ba _ (by omega),_aO _ h0,⟨p / far,by rw[_w hl]⟩,by simp,λm hm=>_y (_bo hm)⟩;have ix:dIx (.loc l) (.int 0) s=.ok (.int p) s:=by simp[dIx,zU,e,atI,ixN]
 simp[zg,Mof,qA,zt,ix,z30 s h0,z4F s h0 h1,e,ixN,uE,List.replicate]
theorem z9x(s:Sto):z3M (.int 10) (.int 18) s=.ok (.int 1000000000000000000) s:=by rw[z50];rfl
theorem zcS(s:Sto):z3M (.int 10) (.int 6) s=.ok (.int 1000000) s:=by rw[z50];rfl
theorem pow_step{m r j:Nat}(h:m<2147483648 ^ j)(hr:r<2147483587):m*2147483587+r<2147483648 ^ (j+1):=by
 rw[_be];generalize 2147483648 ^ j=B at h;omega
theorem zai{m j:Nat}(h:m<2147483648 ^ j)(hj:j<=64):(m:Int)<2 ^ 2000:=by
 have h1:2147483648 ^ j<=2147483648 ^ 64:=Nat.pow_le_pow_right (by decide) hj;have h2:2147483648 ^ 64<=2 ^ 2000:=by decide +kernel
 have h3:m<2 ^ 2000:=_e h (_v h1 h2);have h4:((2 ^ 2000:Nat):Int)=2 ^ 2000:=by decide +kernel
 rw[<- h4];exact Int.ofNat_lt.mpr h3
theorem zbM (c:Int) (s:Sto):∃p:Int,xK [.int c] s=.ok (.loc s.length) (s++[[.int p]]):=by
 by_cases h:1000000000000000000<=c;·exact⟨c-1000000000000000000,by simp[xK,Mof,uo,zt,z9x,h,D.flat.flats,uE,cap,List.replicate]⟩
 ·have lp:∃Z' s',qr [some (.int c),some (.int 0),none,none] s=.ok (.nx Z') s'/\∃(m:Nat) (a b:Option D),Z'=[some (.int c),some (.int m),a,b]/\s'=s:=by
   obtain⟨Z',s',e,m,a,b,e1,e2,_⟩:=z0H (all:=yL 64) (body:=λd Z s=>(wa 2 d Z s).bind λZ' s'=>(zM qt (zM qk qw)) Z' s') (λj Z s'=>∃(m:Nat) (a b:Option D),Z=[some (.int c),some (.int m),a,b]/\s'=s/\m<2147483648 ^ j) (yL 64) 0 (λj x hx Z s' hi=>by
    obtain⟨m,a,b,rfl,rfl,hm⟩:=hi;obtain⟨hj,rfl⟩:=z1J hx;rw[_A]at hm;have r0:=_ba c (show (2147483629:Int)≠0 by decide);have r1:=_aO c (show (0:Int)<2147483629 by decide);have a1:z3c (.int c) (.int 2147483629) s'=.ok (.int (c % 2147483629)) s':=z30 s' (by decide);have a2:wx (.int 7919) (.int j) s'=.ok (.int (7919*j)) s':=uv s' (by decide) (by decide +kernel) (by omega) (by omega);have a3:wx (.int (c % 2147483629+7919*j+1)) (.int 48271) s'=.ok (.int ((c % 2147483629+7919*j+1)*48271)) s':=uv s' (by omega) (by omega) (by decide) (by decide +kernel);generalize hx1:(c % 2147483629+7919*(j:Int)+1)*48271 % 2147483647=x1;have b0:0<=x1:=by rw[<- hx1];exact _ba _ (by decide)
    have b1:x1<2147483647:=by rw[<- hx1];exact _aO _ (by decide)
    have a4:z3c (.int ((c % 2147483629+7919*j+1)*48271)) (.int 2147483647) s'=.ok (.int x1) s':=by rw[<- hx1];exact z30 s' (by decide)
    have a5:wx (.int x1) (.int x1) s'=.ok (.int (x1*x1)) s':=uv s' b0 (by omega) b0 (by omega);have a6:wx (.int 69621) (.int j) s'=.ok (.int (69621*j)) s':=uv s' (by decide) (by decide +kernel) (by omega) (by omega);generalize hx2:(x1*x1+69621*(j:Int)+7) % 2147483587=x2;have c0:0<=x2:=by rw[<- hx2];exact _ba _ (by decide)
    have c1:x2<2147483587:=by rw[<- hx2];exact _aO _ (by decide)
    have a7:z3c (.int (x1*x1+69621*j+7)) (.int 2147483587) s'=.ok (.int x2) s':=by rw[<- hx2];exact z30 s' (by decide)
    have a8:wx (.int m) (.int 2147483587) s'=.ok (.int (m*2147483587)) s':=uv s' (by omega) (zai hm (by omega)) (by decide) (by decide +kernel);obtain⟨y,rfl⟩:=Int.eq_ofNat_of_zero_le c0;refine⟨[some (.int c),some (.int ((m*2147483587+y:Nat):Int)),some (.int j),some (.int y)],s',?_,m*2147483587+y,_,_,rfl,rfl,?_⟩;·simp[a1,a2,a3,a4,a5,a6,a7,a8]
    ·rw[_A];exact pow_step hm (by omega)) [some (.int c),some (.int 0),none,none] s ⟨0,none,none,rfl,rfl,by decide⟩;exact⟨Z',s',by simpa using e,m,a,b,e1,e2⟩
  obtain⟨Z',s',e,m,a,b,rfl,rfl⟩:=lp;refine⟨m,?_⟩;have st:zt ["_law_cell","_law_number","_law_j","_law_more"] [.int c]=[some (.int c),none,none,none]:=rfl;simp only[xK,Mof,uo,st,_c,_g,_H];rw[zn (Z':=[some (.int c),none,none,none]) (s':=s') (by simp[z9x,h])];rw[zn (Z':=[some (.int c),some (.int 0),none,none]) (s':=s') (by simp)];rw[zn e];simp[D.flat.flats,uE,cap]
theorem z1l{α:Type}{gd:List (Nat×List D)}{all:List D}{s:Sto}{body:D->Sto->R (Option D)}(hg:okG gd all s)(g f:α->D):∀(l:List α)(acc:List D),(∀a∈l,body (g a) s=.ok (some (f a)) s)->acc.length+l.length<=cap->vX gd all body (l.map g) acc s=.ok (acc++l.map f) s
 | [],acc,_,_=>by simp[vX,hg] | x::xs,acc,hb,hl=>by
  have ih:=z1l (all:=all) hg g f xs (acc++[f x]) (λy hy=>hb y (by simp[hy])) (by simp at hl ⊢;omega);have hc:acc.length<cap:=by simp at hl;omega
  rw[_N,vX,_f hg,hb x (by simp)];simp[hc,ih]
structure LS(s0:Sto)(l:Nat)(s:Sto)(xs:List Int):Prop where
 pot:Pot s l
 len:s.length=s0.length+1
 at_:s[s0.length]? = some (iL xs)
 oth:∀m,m≠l->m<s0.length->s[m]? = s0[m]?
theorem LS.drawn{s0 s s':Sto}{l:Nat}{xs:List Int}(h:LS s0 l s xs)(hl:l<s0.length)(d:xc s s' l):LS s0 l s' xs:= ⟨d.pot,by rw[d.len,h.len],by rw[d.oth _ (by omega)];exact h.at_,λm h1 h2=>by rw[d.oth m h1];exact h.oth m h1 h2⟩
theorem LS.set{s0 s:Sto}{l:Nat}{xs:List Int}(h:LS s0 l s xs)(hl:l<s0.length)(ys:List Int):LS s0 l (s.set s0.length (iL ys)) ys:=by
 refine⟨?_,by simp[h.len],_w (by rw[h.len];omega),λm h1 h2=>?_⟩
 ·obtain⟨p,e⟩:=h.pot;exact⟨p,by rw[_y (by omega)];exact e⟩
 ·rw[_y (by omega)];exact h.oth m h1 h2
theorem LS.fin{s0 s:Sto}{l:Nat}{xs:List Int}(h:LS s0 l s xs)(hl:l<s0.length):xc s0 (s.take s0.length) l:=by
 obtain⟨p,e⟩:=h.pot;refine⟨⟨p,by rw[_W hl];exact e⟩,by simp[h.len],λm h1=>?_⟩;by_cases h2:m<s0.length;·rw[_W h2];exact h.oth m h1 h2
 ·rw[List.getElem?_eq_none (by simp[h.len];omega),List.getElem?_eq_none (by omega)]
theorem LS.start{s0 s:Sto}{l:Nat}(d:xc s0 s l)(h:Pot s0 l)(xs:List Int):LS s0 l (s++[iL xs]) xs:= ⟨d.pot.app _,by simp[d.len],by rw[<- d.len];simp,λm h1 h2=>by rw[_p (by rw[d.len];exact h2)];exact d.oth m h1⟩
theorem xc.trans{s s1 s2:Sto}{l:Nat}(a:xc s s1 l)(b:xc s1 s2 l):xc s s2 l:=⟨b.pot,by rw[b.len,a.len],λm h=>by rw[b.oth m h,a.oth m h]⟩
theorem xa{s:Sto}{l:Nat}{far:Int}{f g:FE}{Z:Ev}(h:Pot s l)(h0:0<far)(h1:far<2 ^ 2000)(hf:f Z s=.ok (.loc l) s)(hg:g Z s=.ok (.int far) s):∃r s',zf zg (za f (za g zj)) Z s=.ok (.int r) s'/\0<=r/\r<far/\xc s s' l:=by
 obtain⟨r,s',e,a,b,c⟩:=zav h h0 h1;exact⟨r,s',by rw[call2 hf hg,e],a,b,c⟩
theorem z9b(s:Sto):z3M (.int 10) (.int 30) s=.ok (.int 1000000000000000000000000000000) s:=by rw[z50];rfl
theorem uC{xs:List D}{i:Int}{d:D}{s:Sto}(h0:0<=i)(h:xs[i.toNat]? = some d):dIx (.lst xs) (.int i) s=.ok d s:=by
 have hj:i.toNat<xs.length:=(_b.mp h).1;have e:ixN xs.length i=some i.toNat:=by
  unfold ixN;rw[_f h0,_f (by omega)]
 simp only[dIx,zU,atI,e,_Z,h]
theorem z9g{xs:List D}{l:Nat}{i:Int}{d:D}{s:Sto}(hl:s[l]? = some xs)(h0:0<=i)(h:xs[i.toNat]? = some d):dIx (.loc l) (.int i) s=.ok d s:=by
 have hj:i.toNat<xs.length:=(_b.mp h).1;have e:ixN xs.length i=some i.toNat:=by
  unfold ixN;rw[_f h0,_f (by omega)]
 simp only[dIx,zU,hl,atI,e,_Z,h]
theorem z7f{fa fb:FE}{Z:Ev}{s s2:Sto}{L:Nat}{xs:List Int}{x:Int}(ha:fa Z s=.ok (.loc L) s)(hb:fb Z s=.ok (.int x) s2)(at_:s2[L]? = some (iL xs))(hl:xs.length<1000):z2q (z8Q fa fb) Z s=.ok (.nx Z) (s2.set L (iL (xs++[x]))):=by
 rw[z2y,zaN,ha,Rb];simp only;rw[hb,Rb];simp only[at_];rw[_f ⟨uE x,by simp[cap];omega⟩];simp
theorem z25{fa fb fc:FE}{Z:Ev}{s s1 s2:Sto}{L:Nat}{xs:List Int}{i x:Int}(hc:fc Z s=.ok (.int x) s1)(ha:fa Z s1=.ok (.loc L) s1)(hb:fb Z s1=.ok (.int i) s2)(at_:s2[L]? = some (iL xs))(h0:0<=i)(h1:i<xs.length):z1q fa fb fc Z s=.ok (.nx Z) (s2.set L (iL (xs.set i.toNat x))):=by
 have e:ixN (iL xs).length i=some i.toNat:=by
  unfold ixN;rw[_f h0,_f (by simp;omega)]
 rw[z8o,hc,Rb,ha,Rb,hb,Rb];simp only[at_,e,uE,_H,iL,List.map_set]
theorem z5m{xs:List Int}{i:Nat}{x B:Int}(h:∀y∈xs,0<=y/\y<=B)(hx:0<=x/\x<=B):∀y∈xs.set i x,0<=y/\y<=B:=λy hy=>by
 rcases List.mem_or_eq_of_mem_set hy with h2 | h2;·exact h y h2
 ·rw[h2];exact hx
theorem z7Y{r:Int}(s:Sto)(h0:0<=r)(h1:r<6):∃far:Int,dIx (.lst [.int 13,.int 1000,.int 1000000,.int 1000000000000000000000000000000,.int 3,.int 60]) (.int r) s=.ok (.int far) s/\3<=far/\far<=1000000000000000000000000000000:=by
 have:r=0\/r=1\/r=2\/r=3\/r=4\/r=5:=by omega
 rcases this with rfl | rfl | rfl | rfl | rfl | rfl;·exact⟨13,uC (by decide) rfl,by decide,by decide⟩
 ·exact⟨1000,uC (by decide) rfl,by decide,by decide⟩
 ·exact⟨1000000,uC (by decide) rfl,by decide,by decide⟩
 ·exact⟨1000000000000000000000000000000,uC (by decide) rfl,by decide,by decide⟩
 ·exact⟨3,uC (by decide) rfl,by decide,by decide⟩
 ·exact⟨60,uC (by decide) rfl,by decide,by decide⟩
theorem bB:(1000000000000000000000000000000:Int)<2 ^ 2000:=by decide +kernel
theorem vn{x:Int}(h:x<=1000):x<2 ^ 2000:=_ay h (by decide +kernel)
theorem z3m {s0:Sto} {l:Nat} {far thin:Int} (hl:l<s0.length) (f0:3<=far) (f1:far<=1000000000000000000000000000000) (a1:Option D):∀(k j:Nat) (all:List D) (s:Sto) (xs:List Int) (p q:Option D),LS s0 l s xs->(∀y∈xs,0<=y/\y<=1000000000000000000000000000000)->xs.length=j->j+k<=4-> ∃s' ys p' q',yJ [] all (λd Z s=>(wa 5 d Z s).bind λZ' s'=>(zM wm wv) Z' s') ((List.range' j k).map λi=>D.int ((i:Nat):Int)) [some (.loc l),a1,some (.int far),some (.int thin),some (.loc s0.length),p,q,none] s=.ok (.nx [some (.loc l),a1,some (.int far),some (.int thin),some (.loc s0.length),p',q',none]) s'/\LS s0 l s' ys/\(∀y∈ys,0<=y/\y<=1000000000000000000000000000000)/\ys.length=j+k
 | 0,j,all,s,xs,p,q,h,hx,hj,_=>⟨s,xs,p,q,by simp[yJ,okG],h,hx,by omega⟩ | k+1,j,all,s,xs,p,q,h,hx,hj,hk=>by
  obtain⟨r1,s1,e1,r1a,r1b,d1⟩:=xa (Z:=[some (.loc l),a1,some (.int far),some (.int thin),some (.loc s0.length),some (.int j),q,none]) (f:=zc 0) (g:=zc 2) h.pot (by omega) (_ay f1 bB) (by simp) (by simp);have h1:=h.drawn hl d1;obtain⟨r2,s2,e2,r2a,r2b,d2⟩:=xa (Z:=[some (.loc l),a1,some (.int far),some (.int thin),some (.loc s0.length),some (.int j),some (.int (r1+1)),none]) (f:=zc 0) (g:=eC (.int 4)) (far:=4) h1.pot (by decide) (vn (by decide)) (by simp) (by simp);have h2:=h1.drawn hl d2;have hv:∃x:Int,wx (.int (r1+1)) (.int (if decide (thin<=r2)=true then 1 else 0)) s2=.ok (.int x) s2/\0<=x/\x<=1000000000000000000000000000000:=by
   refine⟨(r1+1)*(if decide (thin<=r2)=true then 1 else 0),uv s2 (by omega) (_ay (show r1+1<=1000000000000000000000000000000 by omega) bB) (by split<;>decide) (by split<;>exact vn (by decide)),?_⟩;split<;>omega
  obtain⟨x,ex,x0,x1⟩:=hv;have h3:=h2.set hl (xs++[x]);obtain⟨s',ys,p',q',e3,h4,y4,l4⟩:=z3m hl f0 f1 a1 k (j+1) all (s2.set s0.length (iL (xs++[x]))) (xs++[x]) (some (.int j)) (some (.int (r1+1))) h3 (by
   intro y hy;rcases _F.mp hy with hy | hy;·exact hx y hy
   ·simp at hy;subst hy;exact⟨x0,x1⟩) (by simp[hj]) (by omega);refine⟨s',ys,p',q',?_,h4,y4,by omega⟩;have b1:wm [some (.loc l),a1,some (.int far),some (.int thin),some (.loc s0.length),some (.int j),q,none] s=.ok (.nx [some (.loc l),a1,some (.int far),some (.int thin),some (.loc s0.length),some (.int j),some (.int (r1+1)),none]) s1:=by
   rw[wm,zY,wD,e1];simp
  have b2:wv [some (.loc l),a1,some (.int far),some (.int thin),some (.loc s0.length),some (.int j),some (.int (r1+1)),none] s1=.ok (.nx [some (.loc l),a1,some (.int far),some (.int thin),some (.loc s0.length),some (.int j),some (.int (r1+1)),none]) (s2.set s0.length (iL (xs++[x]))):=by
   have ev:eOp wx (zc 6) (zf z8N (za (eOp dGe (zf zg (za (zc 0) (za (eC (.int 4)) zj))) (zc 3)) zj)) [some (.loc l),a1,some (.int far),some (.int thin),some (.loc s0.length),some (.int j),some (.int (r1+1)),none] s1=.ok (.int x) s2:=by
    have g:zf z8N (za (eOp dGe (zf zg (za (zc 0) (za (eC (.int 4)) zj))) (zc 3)) zj) [some (.loc l),a1,some (.int far),some (.int thin),some (.loc s0.length),some (.int j),some (.int (r1+1)),none] s1=.ok (.int (if decide (thin<=r2)=true then 1 else 0)) s2:=by
     rw[qd,zy,wD,e2];simp only[Rb,qq,_P,_O,z5T,xB,z8N]
    rw[wD];simp only[qq,_P,_O,Rb];rw[g,Rb,ex]
   rw[wv];exact z7f (by simp) ev h2.at_ (by omega)
  rw[List.range'_succ,_N,yJ,_f (by intro p hp;simp at hp),jW,Rb];simp only[_bk,_bj];rw[z0T,b1,Rb];simp only;rw[b2,Rb];simp only;exact e3
theorem z64{v:List Int}{n:Nat}{s:Sto}:z3x n (.ok (rD v) s)=.ok (rD v) (s.take n):=wK (qe v)
theorem z4J{ns:List Int}{L:Nat}{s:Sto}{f:FE}{Z:Ev}(h:ns≠[])(e:s[L]? = some (iL ns))(hf:f Z s=.ok (.loc L) s):tOf (eOp dEq (zf uO (za f zj)) (eC (.int 0))) Z s=.ok (decide (maxL ns=0)) s:=by
 rw[z8E,wD,yG hf,z60 h e];simp
theorem z3Y{ns:List Int}(h:ns≠[])(hn:∀y∈ns,0<=y)(hm:maxL ns≠0):∃x∈ns,0<x:=⟨maxL ns,maxL_mem h,by have:=hn _ (maxL_mem h);omega⟩
theorem zbW {s:Sto} {l:Nat} (h:Pot s l):∃n v s',wL [.loc l] s=.ok (rD v) s'/\z7g n 104 v/\xc s s' l:=by
 have hl:=h.lt;have st:zt ["_law_pot_here","_law_size","_law_far","_law_thin","_law_numbers","_law_place","_law_number","_law_more"] [.loc l]=[some (.loc l),none,none,none,none,none,none,none]:=rfl;obtain⟨r1,s1,e1,a1,b1,d1⟩:=xa (Z:=[some (.loc l),none,none,none,none,none,none,none]) (f:=zc 0) (g:=eC (.int 3)) (far:=3) h (by decide) (vn (by decide)) (by simp) (by simp);obtain⟨n,hn⟩:∃n:Nat,2+r1=(n:Int):=⟨(2+r1).toNat,by omega⟩;have hsz:Sz n:=by unfold Sz;omega
 have p1:vP [some (.loc l),none,none,none,none,none,none,none] s=.ok (.nx [some (.loc l),some (.int n),none,none,none,none,none,none]) s1:=by
  rw[vP,zY,wD,z22,Rb,e1];simp[hn]
 obtain⟨r2,s2,e2,a2,b2,d2⟩:=xa (Z:=[some (.loc l),some (.int n),none,none,none,none,none,none]) (f:=zc 0) (g:=eC (.int 6)) (far:=6) d1.pot (by decide) (vn (by decide)) (by simp) (by simp);obtain⟨far,ef,f0,f1⟩:=z7Y s2 a2 b2;have p2:vJ [some (.loc l),some (.int n),none,none,none,none,none,none] s1=.ok (.nx [some (.loc l),some (.int n),some (.int far),none,none,none,none,none]) s2:=by
  rw[vJ,zY,wD];have:vd (za (eC (.int 13)) (za (eC (.int 1000)) (za (eOp z3M (eC (.int 10)) (eC (.int 6))) (za (eOp z3M (eC (.int 10)) (eC (.int 30))) (za (eC (.int 3)) (za (eC (.int 60)) zj)))))) [some (.loc l),some (.int n),none,none,none,none,none,none] s1=.ok (.lst [.int 13,.int 1000,.int 1000000,.int 1000000000000000000000000000000,.int 3,.int 60]) s1:=by
   simp only[uI,zy,xB,z22,wD,Rb,zcS,z9b];rw[_f (by simp[cap])]
  rw[this,Rb,e2,Rb,ef];simp
 obtain⟨thin,s3,e3,a3,b3,d3⟩:=xa (Z:=[some (.loc l),some (.int n),some (.int far),none,none,none,none,none]) (f:=zc 0) (g:=eC (.int 4)) (far:=4) d2.pot (by decide) (vn (by decide)) (by simp) (by simp);have p3:vI [some (.loc l),some (.int n),some (.int far),none,none,none,none,none] s2=.ok (.nx [some (.loc l),some (.int n),some (.int far),some (.int thin),none,none,none,none]) s3:=by
  rw[vI,zY,e3];simp
 have dd:=(d1.trans d2).trans d3;have p4:vN [some (.loc l),some (.int n),some (.int far),some (.int thin),none,none,none,none] s3=.ok (.nx [some (.loc l),some (.int n),some (.int far),some (.int thin),some (.loc s.length),none,none,none]) (s3++[iL []]):=by
  rw[vN,zY,zaw,xB,Rb,_f ⟨by simp,rfl⟩,dd.len];simp
 have L0:=LS.start dd h [];obtain⟨s5,xs,p',q',e5,L5,x5,n5⟩:=z3m (thin:=thin) hl f0 f1 (some (.int n)) n 0 (yL n) (s3++[iL []]) [] none none L0 (by simp) rfl (by unfold Sz at hsz;omega);have p5:vE [some (.loc l),some (.int n),some (.int far),some (.int thin),some (.loc s.length),none,none,none] (s3++[iL []])=.ok (.nx [some (.loc l),some (.int n),some (.int far),some (.int thin),some (.loc s.length),p',q',none]) s5:=by
  rw[vE,kf,z6X (n:=n) (s1:=s3++[iL []]) (by unfold Sz at hsz;omega) (by simp),Rb];rw[show (yL n)=(List.range' 0 n).map (λi=>D.int ((i:Nat):Int)) from by rw[yL,List.range_eq_range']]at e5 ⊢;exact e5
 rw[_A]at n5;have ne5:xs≠[]:=λz=>by rw[z]at n5;simp at n5;unfold Sz at hsz;omega
 have s8:∃s6 ys,wn [some (.loc l),some (.int n),some (.int far),some (.int thin),some (.loc s.length),p',q',none] s5=.ok (.nx [some (.loc l),some (.int n),some (.int far),some (.int thin),some (.loc s.length),p',q',none]) s6/\LS s l s6 ys/\(∀y∈ys,0<=y/\y<=1000000000000000000000000000000)/\ys.length=n:=by
  have t:=z4J (f:=zc 4) (Z:=[some (.loc l),some (.int n),some (.int far),some (.int thin),some (.loc s.length),p',q',none]) ne5 L5.at_ (by simp);by_cases z:maxL xs=0
  ·obtain⟨ra,sa,ea,aa,ba,da⟩:=xa (Z:=[some (.loc l),some (.int n),some (.int far),some (.int thin),some (.loc s.length),p',q',none]) (f:=zc 0) (g:=zc 2) (far:=far) L5.pot (by omega) (_ay f1 bB) (by simp) (by simp);have La:=L5.drawn hl da;obtain⟨rb,sb,eb,ab,bb,db⟩:=xa (Z:=[some (.loc l),some (.int n),some (.int far),some (.int thin),some (.loc s.length),p',q',none]) (f:=zc 0) (g:=zc 1) (far:=n) La.pot (by unfold Sz at hsz;omega) (vn (by unfold Sz at hsz;omega)) (by simp) (by simp);have Lb:=La.drawn hl db;refine⟨_,_,?_,Lb.set hl (xs.set rb.toNat (1+ra)),z5m x5 (by omega),by simp[n5]⟩;rw[wn,vg,t,Rb,_f (by simpa using z),qg];exact z25 (by rw[wD,z22,Rb,ea];simp) (by simp) eb Lb.at_ ab (by omega)
  ·refine⟨s5,xs,?_,L5,x5,n5⟩;rw[wn,vg,t,Rb,_o (by simpa using z)];rfl
 obtain⟨s6,ys,p8,L6,x6,n6⟩:=s8;obtain⟨r7,s7,e7,a7,b7,d7⟩:=xa (Z:=[some (.loc l),some (.int n),some (.int far),some (.int thin),some (.loc s.length),p',q',none]) (f:=zc 0) (g:=eC (.int 12)) (far:=12) L6.pot (by decide) (vn (by decide)) (by simp) (by simp);have L7:=L6.drawn hl d7;have p10:vm [some (.loc l),some (.int n),some (.int far),some (.int thin),some (.loc s.length),p',q',none] s6=.ok (.nx [some (.loc l),some (.int n),some (.int far),some (.int thin),some (.loc s.length),p',q',some (.int (1+r7))]) s7:=by
  rw[vm,zY,wD,z22,Rb,e7];simp
 have s11:∃s8 zs,xJ [some (.loc l),some (.int n),some (.int far),some (.int thin),some (.loc s.length),p',q',some (.int (1+r7))] s7=.ok (.nx [some (.loc l),some (.int n),some (.int far),some (.int thin),some (.loc s.length),p',q',some (.int (1+r7))]) s8/\LS s l s8 zs/\(∀y∈zs,0<=y/\y<=1000000000000000000000000000000)/\zs.length=n:=by
  obtain⟨rt,st,et,_,_,dt⟩:=xa (Z:=[some (.loc l),some (.int n),some (.int far),some (.int thin),some (.loc s.length),p',q',some (.int (1+r7))]) (f:=zc 0) (g:=eC (.int 3)) (far:=3) L7.pot (by decide) (vn (by decide)) (by simp) (by simp);have Lt:=L7.drawn hl dt;have t:tOf (eOp dEq (zf zg (za (zc 0) (za (eC (.int 3)) zj))) (eC (.int 0))) [some (.loc l),some (.int n),some (.int far),some (.int thin),some (.loc s.length),p',q',some (.int (1+r7))] s7=.ok (decide (rt=0)) st:=by rw[z8E,wD,et];simp
  by_cases z:rt=0
  ·obtain⟨ra,sa,ea,aa,ba,da⟩:=xa (Z:=[some (.loc l),some (.int n),some (.int far),some (.int thin),some (.loc s.length),p',q',some (.int (1+r7))]) (f:=zc 0) (g:=zc 1) (far:=n) Lt.pot (by unfold Sz at hsz;omega) (vn (by unfold Sz at hsz;omega)) (by simp) (by simp);have La:=Lt.drawn hl da;obtain⟨rb,sb,eb,ab,bb,db⟩:=xa (Z:=[some (.loc l),some (.int n),some (.int far),some (.int thin),some (.loc s.length),p',q',some (.int (1+r7))]) (f:=zc 0) (g:=zc 1) (far:=n) La.pot (by unfold Sz at hsz;omega) (vn (by unfold Sz at hsz;omega)) (by simp) (by simp);have Lb:=La.drawn hl db;have hra:ra.toNat<ys.length:=by omega
   have ix:=z9g (d:=.int ys[ra.toNat]) La.at_ aa (by simp[hra]);have my:=x6 ys[ra.toNat] (_ai hra);refine⟨_,_,?_,Lb.set hl (ys.set rb.toNat ys[ra.toNat]),z5m x6 my,by simp[n6]⟩;rw[xJ,vg,t,Rb,_f (by simpa using z),ux];exact z25 (by
    rw[wD];simp only[qq,_P,_O,Rb];rw[ea,Rb];exact ix) (by simp) eb Lb.at_ ab (by omega)
  ·refine⟨st,ys,?_,Lt,x6,n6⟩;rw[xJ,vg,t,Rb,_o (by simpa using z)];rfl
 obtain⟨s8,zs,p11,L8,x8,n8⟩:=s11;have ne8:zs≠[]:=λz=>by rw[z]at n8;simp at n8;unfold Sz at hsz;omega
 have s13:∃s9 ws,xG [some (.loc l),some (.int n),some (.int far),some (.int thin),some (.loc s.length),p',q',some (.int (1+r7))] s8=.ok (.nx [some (.loc l),some (.int n),some (.int far),some (.int thin),some (.loc s.length),p',q',some (.int (1+r7))]) s9/\LS s l s9 ws/\(∀y∈ws,0<=y/\y<=1000000000000000000000000000000)/\ws.length=n/\∃x∈ws,0<x:=by
  have t:=z4J (f:=zc 4) (Z:=[some (.loc l),some (.int n),some (.int far),some (.int thin),some (.loc s.length),p',q',some (.int (1+r7))]) ne8 L8.at_ (by simp);by_cases z:maxL zs=0
  ·refine⟨_,_,?_,L8.set hl (zs.set (0:Int).toNat 1),z5m x8 (by omega),by simp[n8],1,?_,by decide⟩
   ·rw[xG,vg,t,Rb,_f (by simpa using z),uy];exact z25 (s1:=s8) (s2:=s8) (L:=s.length) (i:=0) (x:=1) (by simp) (by simp) (by simp) L8.at_ (by decide) (by unfold Sz at hsz;omega)
   ·exact List.mem_set (by unfold Sz at hsz;omega) _
  ·refine⟨s8,zs,?_,L8,x8,n8,z3Y ne8 (λy hy=>(x8 y hy).1) z⟩;rw[xG,vg,t,Rb,_o (by simpa using z)];rfl
 obtain⟨s9,ws,p13,L9,x9,n9,w9⟩:=s13;have hk:(0:Int)<1+r7:=by omega
 refine⟨n,scl (1+r7) ws,s9.take s.length,?_,⟨⟨hsz,by rw[z8A hk,n9],λx hx=>?_,?_⟩,λx hx=>?_⟩,L9.fin hl⟩
 ·simp only[wL,z2i,Mof,jJ,st,_c,_g,_H];rw[zn p1,zn p2,zn p3,zn p4,zn p5,zn p8,zn p10,zn p11,zn p13];have c:yE (xu (zc 4)) [some 7,none] (wa 1) vR (eOp wx (zc 1) (zc 0)) [some (.loc l),some (.int n),some (.int far),some (.int thin),some (.loc s.length),p',q',some (.int (1+r7))] s9=.ok (.lst (iL (scl (1+r7) ws))) s9:=by
   rw[z3q,z5c,z2c];simp only[qq,_P,_O,Rb,L9.at_];rw[z1l (by
    intro p hp;simp at hp;subst hp;exact L9.at_) D.int (λy=>D.int (y*(1+r7))) ws [] (by
    intro y hy;have mm:=uv (a:=y) (b:=1+r7) s9 (x9 y hy).1 (_ay (x9 y hy).2 bB) (by omega) (vn (by omega));simp[mm]) (by unfold Sz at hsz;simp[cap];omega)];simp[scl,_aB]
  rw[uM,ud,yG c,z52];simp only[Rb];exact z64
 ·obtain⟨y,hy,rfl⟩:=_L.mp hx;exact Int.mul_nonneg (x9 y hy).1 (by omega)
 ·obtain⟨y,hy,h0⟩:=w9;exact⟨y*(1+r7),(z8D hk).mpr hy,Int.mul_pos h0 hk⟩
 ·obtain⟨y,hy,rfl⟩:=_L.mp hx;have b:=x9 y hy;have m1:y*(1+r7)<=1000000000000000000000000000000*(1+r7):=Int.mul_le_mul_of_nonneg_right b.2 (by omega);have:(2:Int) ^ 104=20282409603651670423947251286016:=by decide
  omega
def okD:Nat->D->Bool
 | _,.non=>true | _,.bl _=>true | _,.int _=>true | _,.str x=>PyData.strOk x | k+1,.tup xs=>xs.all (okD k) | k+1,.lst xs=>xs.all (okD k) | _,_=>false
theorem zbG{k:Nat}:∀(xs:List D),(∀x∈xs,PyData.canLay0 (wc x)=true/\PyData.depth (wc x)<=2*k+3/\PyData.eqv (wc x) (wc x)=true)->PyData.canLayAll0 (toPys xs)=true/\PyData.depthAll (toPys xs)<=2*k+4/\PyData.eqvAll (toPys xs) (toPys xs)=true
 | [],_=>⟨rfl,by simp[toPys,PyData.depthAll],by simp[toPys,PyData.eqvAll]⟩ | x::xs,h=>by
  have h1:=h x (by simp);have h2:=zbG xs λy hy=>h y (by simp[hy]);refine⟨by simp[toPys,PyData.canLayAll0,h1.1,h2.1],?_,by simp[toPys,PyData.eqvAll,h1.2.2,h2.2.2]⟩;simp only[toPys,PyData.depthAll];omega
theorem z7b:∀(k:Nat)(d:D),okD k d=true->PyData.canLay0 (wc d)=true/\PyData.depth (wc d)<=2*k+3/\PyData.eqv (wc d) (wc d)=true:=by
 intro k;induction k with
 | zero=>
  intro d h;cases d with
  | str x=>simp only[okD]at h;simp[wc,PyData.canLay0,PyData.depth,PyData.eqv,h] | non=>simp[wc,PyData.canLay0,PyData.depth,PyData.eqv] | bl b=>simp[wc,PyData.canLay0,PyData.depth,PyData.eqv] | int i=>simp[wc,PyData.canLay0,PyData.depth,PyData.eqv] | _=>simp[okD]at h
 | succ k ih=>
  intro d h;cases d with
  | str x=>simp only[okD]at h;simp[wc,PyData.canLay0,PyData.depth,PyData.eqv,h] | non=>simp[wc,PyData.canLay0,PyData.depth,PyData.eqv] | bl b=>simp[wc,PyData.canLay0,PyData.depth,PyData.eqv] | int i=>simp[wc,PyData.canLay0,PyData.depth,PyData.eqv] | tup xs=>
   simp only[okD,_z]at h;have q:=zbG (k:=k) xs λx hx=>ih x (h x hx);refine⟨by simp only[wc,PyData.canLay0,q.1],?_,by simp only[wc,PyData.eqv,q.2.2]⟩;simp only[wc,PyData.depth];omega | lst xs=>
   simp only[okD,_z]at h;have q:=zbG (k:=k) xs λx hx=>ih x (h x hx);refine⟨by simp only[wc,PyData.canLay0,q.1],?_,by simp only[wc,PyData.eqv,q.2.2]⟩;simp only[wc,PyData.depth];omega | _=>simp[okD]at h
theorem z8V{k:Nat}{d:D}(h:okD k d=true)(hk:k<=10):z51 d=true:=by
 have q:=z7b k d h;simp only[z51,SeqAt.shaped,q.1];simp;omega
theorem eq_self{k:Nat}{d:D}(h:okD k d=true)(hk:k<=10)(s:Sto):dEq d d s=.ok (.bl true) s:=by
 have q:=z7b k d h;have o:=z8V h hk;rw[dEq,_f ⟨o,o⟩];simp only[eqD,q.2.2]
end Pg
namespace Pn
open L2 Dd Pm Pg
def isI:D->Bool
 | .int _=>true | _=>false
def okI:D->Bool
 | .int i=>decide (0<=i) | _=>false
theorem z2J{d:D}(h:(tyD d).isSome=true)(s:Sto):yN [d] s=.ok (.bl (isI d)) s:=by cases d<;>simp[tyD]at h<;>simp[yN,Mof,ul,zt,gIs,tyD,isT,isI]
theorem qo{d:D}(h:(tyD d).isSome=true)(s:Sto):zZ [d] s=.ok (.bl (isI d)) s:=by cases d<;>simp[tyD]at h<;>simp[zZ,Mof,uF,zt,gIs,tyD,isT,isI]
def Kd:D->Prop
 | .tup xs=>∀x∈xs,(tyD x).isSome=true | .scr _=>False | d=>(tyD d).isSome=true
theorem Kd.ty{d:D}(h:Kd d):(tyD d).isSome=true:=by cases d<;>first | rfl | exact h | exact (show False from h).elim
theorem all_ints:∀{xs:List D},xs.all isI=true->∃v:List Int,xs=iL v
 | [],_=>⟨[],rfl⟩ | x::xs,h=>by
  rw[_a1,_q]at h;obtain⟨v,rfl⟩:=all_ints h.2;cases x with
  | int i=>exact⟨i::v,rfl⟩ | _=>simp[isI]at h
theorem z2T:∀{v w:List Int},iL v=iL w->v=w
 | [],[],_=>rfl | [],_::_,h=>by simp at h | _::_,[],h=>by simp at h | a::v,b::w,h=>by
  simp only[iL,_N,List.cons.injEq,D.int.injEq]at h;rw[h.1,z2T (v:=v) (w:=w) h.2]
theorem z5n(v:List Int):(iL v).all okI=v.all λx=>decide (0<=x):=by
 simp only[iL,List.all_map];rfl
theorem z0c{α:Type}(l:List α)(p:α->Bool)(s:Sto):z44 [.lst (l.map λx=>D.bl (p x))] s=.ok (.bl (l.all p)) s:=by
 have b:bools (l.map λx=>D.bl (p x))=some (l.map p):=by
  rw[show (l.map λx=>D.bl (p x))=(l.map p).map D.bl by rw[_bN];rfl];exact z14 _
 simp[z44,zU,b]
theorem z0f {xs:List D} (hk:∀x∈xs,(tyD x).isSome=true) (s:Sto) (h:xs.length<=1000):zP [.tup xs,.int xs.length] s=.ok (.bl (xs.all isI)) s:=by
 have st:zt ["thing","many"] [.tup xs,.int xs.length]=[some (.tup xs),some (.int xs.length)]:=rfl;simp only[zP,Mof,vb,st,_c,_g,_H];rw[zn (Z':=[some (.tup xs),some (.int xs.length)]) (s':=s) (by simp[gIs,tyD,isT,wb,zU])];have c:=comp_map (fi:=xu (zc 0)) (mp:=[none]) (fg:=wa 0) (fe:=zf yN (za (zc 0) zj)) (Z:=[some (.tup xs),some (.int xs.length)]) (s:=s) (λx=>x) (λx=>D.bl (isI x)) (λx=>[some x]) xs (by simp) (λa _=>by simp) (λa ha=>by simp[z2J (hk a ha)]) (by simp[cap];omega);simp only[uf,ud,qd,zy,xB,c,Rb,z0c]
theorem qi{t:Option D}(s:Sto):∀(xs all:List D)(z:Option D),(∀x∈xs,(tyD x).isSome=true)-> if xs.all okI=true then ∃z',yJ [] all (λd Z s=>(wa 1 d Z s).bind λZ' s'=>yA Z' s') xs [t,z] s=.ok (.nx [t,z']) s else yJ [] all (λd Z s=>(wa 1 d Z s).bind λZ' s'=>yA Z' s') xs [t,z] s=.ok (.rt (.bl false)) s
 | [],all,z,_=>by simp[yJ,okG] | x::xs,all,z,hk=>by
  have hx:=hk x (by simp);have ih:=qi (t:=t) s xs all (some x) λy hy=>hk y (by simp[hy]);have og:okG [] all s:=by intro p hp;simp at hp
  have step:yA [t,some x] s=if okI x=true then .ok (.nx [t,some x]) s else .ok (.rt (.bl false)) s:=by
   have w:=qo hx s;cases x with
   | int i=>
    by_cases h0:0<=i
    ·have:¬ i<0:=by omega
     simp[w,isI,okI,h0,this]
    ·have:i<0:=by omega
     simp[w,isI,okI,h0,this] | _=>simp[w,isI,okI]
  simp only[yJ,_f og,jW,Rb,_bk,_bj,step];cases h:okI x with
  | true=>
   simp only[_H,Rb,_a1,h,Bool.true_and];exact ih | false=>simp[h]
theorem z7N{xs:List D}(h:xs.all okI=true):xs.all isI=true:=by
 rw[_z]at h ⊢;intro x hx;have:=h x hx;cases x<;>simp_all[okI,isI]
theorem z2W{d:D}(hd:Kd d)(s:Sto):(∃n v,d=rD v/\Lot n v/\zx [d] s=.ok (.bl true) s/\zE [d] s=.ok (.bl true) s)\/(zx [d] s=.ok (.bl false) s/\zE [d] s=.ok (.bl false) s):=by cases d with
  | tup xs=>
    have hk:∀x∈xs,(tyD x).isSome=true:=hd;by_cases hs:2<=xs.length/\xs.length<=4
    · have h1:=kL xs s hs;have h2:=z0f hk s (by omega);have gl:wb [.tup xs] s=.ok (.int xs.length) s:=by simp[wb,zU]
      have lf:vL [some (.tup xs),none] s=.ok (.nx [some (.tup xs),none]) s:=by
        have:z7o true (.int (xs.length:Int)) (.tup [.int 2,.int 3,.int 4]) s=.ok (.bl false) s:=by
          have hc:xs.length=2\/xs.length=3\/xs.length=4:=by omega
          rcases hc with hc | hc | hc<;>rw[hc]<;>rfl
        simp[gIs,tyD,isT,gl,this,cap]
      have lp:=qi (t:=some (.tup xs)) s xs xs none hk;have st:zt ["_law_thing","_law_number"] [.tup xs]=[some (.tup xs),none]:=rfl;have lw:zE [.tup xs] s=(match zM yw yZ [some (.tup xs),none] s with | .ok (.rt d) s'=>.ok d s' | .ok (.nx _) s'=>.ok .non s' | _=>.no):=by
        simp only[zE,Mof,xl,st,_c,_g,_H];rw[zn lf]<;>(generalize zM yw yZ [some (.tup xs),none] s=r;cases r with
          | ok fl _=>cases fl<;>rfl | _=>rfl)
      have q3:yw [some (.tup xs),none] s=yJ [] xs (λd Z s=>(wa 1 d Z s).bind λZ' s'=>yA Z' s') xs [some (.tup xs),none] s:=by
        rw[yw,kf];simp only[z2c,qq,_P,Rb]
      have pg:∀b,(∀v:List Int,xs=iL v->(decide (0<=minL v)&&decide (0<maxL v))=b)->(xs.all isI=false->b=false)->zx [.tup xs] s=.ok (.bl b) s:=λb hb hb2=>by cases hi:xs.all isI with
        | false=>
          rw[hi]at h2;rw[hb2 hi];have key:∀d:D,zR [d] s=.ok (.bl true) s->wb [d] s=.ok (.int xs.length) s->zP [d,.int xs.length] s=.ok (.bl false) s->zx [d] s=.ok (.bl false) s:=λd a1 a2 a3=>by simp[zx,Mof,xN,zt,a1,a2,a3]
          exact key _ h1 gl h2 | true=>
          rw[hi]at h2;obtain⟨v,rfl⟩:=all_ints hi;have ne:v≠[]:=by rintro rfl;simp at hs
          have g1:=z4P s ne;have g2:=z72 s ne;have hb:=hb v rfl;have key:∀d:D,zR [d] s=.ok (.bl true) s->wb [d] s=.ok (.int (iL v).length) s->zP [d,.int (iL v).length] s=.ok (.bl true) s->uO [d] s=.ok (.int (maxL v)) s->z27 [d] s=.ok (.int (minL v)) s->zx [d] s=.ok (.bl b) s:=λd a1 a2 a3 a4 a5=>by
            rw[<- hb];by_cases z:0<=minL v;· simp[zx,Mof,xN,zt,a1,a2,a3,a4,a5,z,-List.length_map]
            · simp[zx,Mof,xN,zt,a1,a2,a3,a4,a5,z,-List.length_map]
          exact key _ h1 gl h2 g1 g2
      cases ho:xs.all okI with
      | false=>
        right;rw[ho,_o (by decide)]at lp;refine⟨pg false (λv hv=>?_) (λ_=>rfl),?_⟩
        · subst hv;rw[z5n]at ho;rw[Bool.and_eq_false_iff];left;rw[decide_eq_false_iff_not];intro z;have ne:v≠[]:=by rintro rfl;simp at hs
          have:v.all (λx=>decide (0<=x))=true:=by
            rw[_z];intro x hx;have:=minL_le (xs:=v) x hx;exact _au (by omega)
          rw[this]at ho;cases ho
        · rw[lw,uK (by rw[q3];exact lp)] | true=>
        rw[ho,_f rfl]at lp;obtain⟨z',lp⟩:=lp;obtain⟨v,rfl⟩:=all_ints (z7N ho);have ne:v≠[]:=by rintro rfl;simp at hs
        rw[z5n,_z]at ho;have nn:∀x∈v,0<=x:=λx hx=>of_decide_eq_true (ho x hx);have mn:0<=minL v:=nn _ (minL_mem ne);have g1:=z4P s ne;have lw2:zE [.tup (iL v)] s=.ok (.bl (decide (0<maxL v))) s:=by
          rw[lw,zn (by rw[q3];exact lp)];have key:∀d:D,uO [d] s=.ok (.int (maxL v)) s->yZ [some d,z'] s=.ok (.rt (.bl (decide (0<maxL v)))) s:=λd a=>by simp[a]
          rw[key _ g1]
        by_cases mx:0<maxL v
        · left;have hv:Lot v.length v:=by refine⟨?_,?_,nn,⟨maxL v,maxL_mem ne,mx⟩⟩<;>first | rfl | (simp at hs;omega) | skip
          refine⟨v.length,v,rfl,hv,z0r hv s,?_⟩;rw[lw2,_au mx]
        · right;refine⟨pg false (λw hw=>?_) (λ_=>rfl),?_⟩
          · have:v=w:=z2T hw;subst this;rw[_M mx,Bool.and_false]
          · rw[lw2,_M mx]
    · right;have e:(decide ((2:Int)<=xs.length)&&decide ((xs.length:Int)<=4))=false:=by
        by_cases a:(2:Int)<=xs.length
        · have:¬ (xs.length:Int)<=4:=by omega
          simp[a,this]
        · simp[a]
      constructor
      · have h1:zR [.tup xs] s=.ok (.bl false) s:=by
          by_cases a:(2:Int)<=xs.length
          · have:¬ (xs.length:Int)<=4:=by omega
            simp[zR,Mof,xT,zt,gIs,tyD,isT,wb,zU,a,this]
          · simp[zR,Mof,xT,zt,gIs,tyD,isT,wb,zU,a]
        have key:∀d:D,zR [d] s=.ok (.bl false) s->zx [d] s=.ok (.bl false) s:=λd a1=>by simp[zx,Mof,xN,zt,a1]
        exact key _ h1
      · have gl:wb [.tup xs] s=.ok (.int xs.length) s:=by simp[wb,zU]
        have q:z7o true (.int (xs.length:Int)) (.tup [.int 2,.int 3,.int 4]) s=.ok (.bl true) s:=by
          have h2:xs.length≠2:=by omega
          have h3:xs.length≠3:=by omega
          have h4:xs.length≠4:=by omega
          generalize xs.length=m at h2 h3 h4;have g2:¬ (2:Int)=m:=by omega
          have g3:¬ (3:Int)=m:=by omega
          have g4:¬ (4:Int)=m:=by omega
          have e:inV (.int (m:Int)) [.int 2,.int 3,.int 4]=false:=by simp[inV,eqV,g2,g3,g4]
          simp[z7o,z1g,zU,uY,e]
        simp[zE,Mof,xl,zt,gIs,tyD,isT,gl,q,cap] | scr _=>exact hd.elim | _=>
    right;have hd:=hd.ty;first
    | (exfalso;simp[tyD]at hd;done)
    | (constructor;· simp[zx,Mof,xN,zR,xT,zt,gIs,tyD,isT]
       · simp[zE,Mof,xl,zt,gIs,tyD,isT])
theorem z2p:LeM vU xh:=LeM.mof (LeS.if_ LeS.fNo LeS.rfl)
theorem z0y{d:D}{s:Sto}(h:zx [d] s=.ok (.bl false) s):xh [d] s=.ex "NoLot" s:=by
 have st:zt ["thing"] [d]=[some d]:=rfl;simp[xh,z2z,qj,st,h]
theorem kA{n:Nat}{v:List Int}(h:Lot n v)(s:Sto):xh [rD v] s=.ok .non s:=z2p.ok (z3L h s)
theorem za0{f g:FS}{Z:Ev}{s s':Sto}{c:Str}(h:f Z s=.ex c s'):zM f g Z s=.ex c s':=by rw[z0T,h,R.bind_ex]
theorem z81{f:FE}{Z:Ev}{s s':Sto}{c:Str}(h:f Z s=.ex c s'):z2q f Z s=.ex c s':=by rw[z2y,h,R.bind_ex]
theorem z7U(k:Nat)(b:Bool)(s:Sto):zr (k+1) [.bl b,.bl b] s=.ok (.bl true) s:=by
 have e:dEq (.bl b) (.bl b) s=.ok (.bl true) s:=by rw[z9N];simp
 have d1:dIs (.bl b) .non s=.ok (.bl false) s:=rfl;simp[zr,Mof,yM,zt,z8e,z75,gIs,tyD,isT,d1]
theorem same_int(k:Nat)(i:Int)(s:Sto):zr (k+1) [.int i,.int i] s=.ok (.bl true) s:=by
 have d1:dIs (.int i) .non s=.ok (.bl false) s:=rfl;have w:=qo (d:=.int i) rfl s;simp[zr,Mof,yM,zt,z8e,z75,gIs,tyD,isT,d1,w,isI]
theorem same_str (k:Nat) {x:Str} (hx:PyData.strOk x=true) (s:Sto):zr (k+1) [.str x,.str x] s=.ok (.bl true) s:=by
 have d1:dIs (.str x) .non s=.ok (.bl false) s:=rfl;have e:=eq_self (k:=0) (d:=.str x) hx (by decide) s;have e2:dEq (.bl false) (.bl false) s=.ok (.bl true) s:=by rw[z9N];rfl
 simp[zr,Mof,yM,zt,z8e,z75,gIs,tyD,isT,d1,e]
def vv:Nat->D->Prop
 | _,.bl _=>True | _,.int _=>True | _,.str x=>PyData.strOk x=true | k+1,.tup xs=>xs.length<=cap/\∀x∈xs,vv k x | k+1,.lst xs=>xs.length<=cap/\∀x∈xs,vv k x | _,_=>False
theorem z11:∀xs:List D,z3b xs xs=xs.map λx=>D.tup [x,x]
 | []=>rfl | x::xs=>by rw[z3b,z11 xs];rfl
theorem z3e {k:Nat} {xs:List D} {s:Sto} (hl:xs.length<=cap) (h:∀x∈xs,zr k [x,x] s=.ok (.bl true) s) (d:D) (hd:d=.tup xs\/d=.lst xs):zr (k+1) [d,d] s=.ok (.bl true) s:=by
 have st:zt ["_law_found","_law_due"] [d,d]=[some d,some d]:=rfl;have g:z8a s d=some (xs,[]):=by rcases hd with rfl | rfl<;>rfl
 have c:=comp_map (fi:=z8S (za (zc 0) (za (zc 1) zj))) (mp:=[none,none]) (fg:=z3Q 0 1) (fe:=zf (zr k) (za (zc 0) (za (zc 1) zj))) (Z:=[some d,some d]) (s:=s) (λx=>D.tup [x,x]) (λx=>D.bl true) (λx=>[some x,some x]) xs (by simp[g,z11]) (λa _=>by simp) (λa ha=>by simp[h a ha]) hl;have ga:=z0c xs (λ_=>true) s;have ga:z44 [.lst (xs.map λ_=>D.bl true)] s=.ok (.bl true) s:=by rw[ga];simp
 have gl:wb [d] s=.ok (.int xs.length) s:=by rcases hd with rfl | rfl<;>simp[wb,zU]
 have q4:vc (zr k) [some d,some d] s=.ok (.rt (.bl true)) s:=by simp only[vc,ud,zay,wD,qd,zy,xB,c,Rb,ga,qq,_P,_O,gl,zbA,decide_true]
 have q2:uQ (zr k) [some d,some d] s=.ok (.nx [some d,some d]) s:=by rcases hd with rfl | rfl<;>simp[gIs,tyD,isT]
 have q1:wW (zr k) [some d,some d] s=.ok (.rt (.bl true)) s:=by
  rw[wW,vg];have t:tOf (z75 "list" "tuple" (zc 1)) [some d,some d] s=.ok true s:=by rcases hd with rfl | rfl<;>simp[z75,z8e,tyD,isT]
  rw[t,Rb,_f rfl,zn q2,q4]
 simp only[zr,Mof,yM,st,_c,_g,_H];rw[uK q1]
theorem jF:∀(k:Nat)(d:D)(s:Sto),vv k d->zr (k+1) [d,d] s=.ok (.bl true) s
 | k,.bl b,s,_=>z7U k b s | k,.int i,s,_=>same_int k i s | k,.str x,s,h=>same_str k (by unfold vv at h;exact h) s | k+1,.tup xs,s,h=>by unfold vv at h;exact z3e h.1 (λx hx=>jF k x s (h.2 x hx)) _ (.inl rfl) | k+1,.lst xs,s,h=>by unfold vv at h;exact z3e h.1 (λx hx=>jF k x s (h.2 x hx)) _ (.inr rfl) | 0,.tup xs,s,h=>by simp[vv]at h | 0,.lst xs,s,h=>by simp[vv]at h | k,.non,s,h=>by simp[vv]at h | k,.dct,s,h=>by simp[vv]at h | k,.loc _,s,h=>by simp[vv]at h | k,.dlo _,s,h=>by simp[vv]at h | k,.fn _,s,h=>by simp[vv]at h | k,.exc _,s,h=>by simp[vv]at h | k,.scr _,s,h=>by simp[vv]at h
def z5t:List D:=[.non,.bl true,.bl false,.int (-1),.int 0,.int 7,.int 1000000000000000000000000000000,.str "",.str "1:0",.tup [],.tup [.int 0,.int 0],.tup [.int 1],.lst [.int 1,.int 0],.dct,.tup [.tup [.int 1,.int 0],.tup [.int 0,.int 1]],.tup [.bl true,.int 2]]
theorem zc0 {s:Sto} {l:Nat} (h:Pot s l):∃d s',xg [.loc l] s=.ok d s'/\d∈z5t/\xc s s' l:=by
 have st:zt ["_law_pot_here","_law_some"] [.loc l]=[some (.loc l),none]:=rfl;have q1:qp [some (.loc l),none] s=.ok (.nx [some (.loc l),some (.lst [.non,.bl true,.bl false,.int (-1),.int 0,.int 7,.int 1000000000000000000000000000000,.str "",.str "1:0",.tup [],.tup [.int 0,.int 0],.tup [.int 1],.lst [.int 1,.int 0],.dct])]) s:=by simp[z9b,cap]
 obtain⟨r,s',e,a,b,dr⟩:=xa (f:=zc 0) (g:=eC (.int 16)) (far:=16) (Z:=[some (.loc l),some (.lst [.non,.bl true,.bl false,.int (-1),.int 0,.int 7,.int 1000000000000000000000000000000,.str "",.str "1:0",.tup [],.tup [.int 0,.int 0],.tup [.int 1],.lst [.int 1,.int 0],.dct])]) h (by decide) (vn (by decide)) (by simp) (by simp);have hr:r.toNat<z5t.length:=by simp[z5t];omega
 have ix:=uC (xs:=z5t) (d:=z5t[r.toNat]) (s:=s') a (by simp[hr]);refine⟨z5t[r.toNat],s',?_,_ai hr,dr⟩;simp only[xg,Mof,jZ,st,_c,_g,_H];rw[zn q1,qh,ud,wD];have c:eOp xy (zc 1) (vd (za (jM (za (jM (za (eC (.int 1)) (za (eC (.int 0)) zj))) (za (jM (za (eC (.int 0)) (za (eC (.int 1)) zj))) zj))) (za (jM (za (eC (.bl true)) (za (eC (.int 2)) zj))) zj))) [some (.loc l),some (.lst [.non,.bl true,.bl false,.int (-1),.int 0,.int 7,.int 1000000000000000000000000000000,.str "",.str "1:0",.tup [],.tup [.int 0,.int 0],.tup [.int 1],.lst [.int 1,.int 0],.dct])] s=.ok (.lst z5t) s:=by simp[cap,z5t]
 rw[c,Rb,e,Rb,ix,Rb]
end Pn
namespace Pm
end Pm
namespace Pg
open L2 Dd Pm
theorem vr{i:Nat}{Z:Ev}{s:Sto}{d:D}(h:Z[i]? = some (some d)):zc i Z s=.ok d s:=by rw[qq,h]
theorem zaY{f g:FS}{t:FT}{Z:Ev}{s:Sto}(h:t Z s=.ok false s):fIf t f g Z s=g Z s:=by rw[vg,h,Rb,_o (by decide)]
theorem zc2{t u:FT}{Z:Ev}{s:Sto}(h:t Z s=.ok false s)(h2:u Z s=.ok false s):fOr t u Z s=.ok false s:=by rw[z0p,h,Rb,_o (by decide),h2]
theorem xx{f:FE}{Z:Ev}{s:Sto}{b:Bool}(h:f Z s=.ok (.bl b) s):tOf f Z s=.ok b s:=by rw[z8E,h];rfl
theorem z8i{t:FT}{Z:Ev}{s:Sto}(h:t Z s=.ok true s):kg t Z s=.ok false s:=by rw[kP,h];rfl
end Pg
namespace Pm
end Pm
namespace Pg
open L2 Dd Pm
end Pg
namespace Pm
end Pm
namespace Pg
open L2 Dd Pm
end Pg
namespace Pn
open L2 Dd Pm Pg
end Pn
namespace Pm
open L2 (maxL minL maxL_ge maxL_mem minL_le minL_mem)
end Pm
namespace Pg
open L2 Dd Pm
end Pg
namespace Po
open L2 Dd Pm Pg Pn
section
end
end Po
namespace Pr
open L2 Dd Pm Pg Pn Po
end Pr
namespace Pn
open L2 Dd Pm Pg
end Pn
namespace Po
open L2 Dd Pm Pg Pn
open PySem.Builtin.Str
end Po
namespace Po
open L2 Dd Pm Pg Pn
end Po
namespace Pr
open L2 Dd Pm Pg Pn Po
open PySem.W
end Pr
namespace Dd
open L2 PySem.W Pm Pr
end Dd
namespace Pg
open L2 Dd
end Pg
namespace Dd
open L2
end Dd
namespace L2
open LCg
end L2
namespace Dd
open L2
section
variable {X:Cx}{E:XK}
theorem zaM:OpR X (compareOp .NotEq) (λx y H Q=>∃a b:Str,x=.str a/\y=.str b/\Q (.bl (a.cps.toList != b.cps.toList)) H):=by
 intro pins s O H x y v u Q I rx ry ⟨a,b,e1,e2,q⟩;subst e1 e2;obtain⟨t,rfl⟩:=rx;obtain⟨t',rfl⟩:=ry;exact P.ne_str ⟨.bl _,H,I,rfl,q⟩
def z5s:D->D->Sto->R D
 | .str a,.str b,s=>.ok (.bl (a.cps.toList != b.cps.toList)) s | _,_,_=>.no
theorem z85:∃r,OpR X (compareOp .NotEq) r/\OpF X E r z5s:=⟨_,zaM,λH Y s d1 d2 v1 v2 Q r h1 h2 h=>by
 unfold z5s at h;split at h
 ·cases yb h1;cases yb h2;exact⟨_,_,rfl,rfl,h.here r ye⟩
 ·exact h.elim⟩
end
end Dd
namespace L2
open Dd PySem.Builtin.Str
def Its(z:Str):It:=⟨λi _=>i<z.cps.size,λi H x H'=>H'=H/\∃c,z.cps[i]? = some c/\x=.str ⟨#[c]⟩,λi _=>z.cps.size<=i⟩
theorem z5E{P:Program}{w:World}{K:W.Frag}{tg:Expr}(it:Addr)(z:Str)(t:Tok):z7G P w K tg (Its z) [it] it (λi h=>h.IsStrIter it "str_ascii_iterator" z t i) where
 mem:=by simp
 obj:=λi h st b hb=>by
  have e:b=it:=by simpa using hb
  subst e;obtain⟨o,e,c,d⟩:=st;exact⟨o,e,λv z=>by rw[d]at z;cases z⟩
 keep:=λi h h' st k=>by
  obtain⟨o,e,r⟩:=st;exact⟨o,k it (by simp) o e,r⟩
 item:=by
  intro X hP hw hK hc i pins s O H E I hf st hg;subst hP hw hK;have hg:i<z.cps.size:=hg;obtain⟨f0,f1,f2,f3,f4,f5⟩:=hf it (by simp);refine wpAny_pyNext_ascii_item st (c:=z.cps[i]) (by simp[hg]) λh' st' sb=>?_;have I1:Inv X pins O H {s with heap:=h',toks:=s.toks+1}:=I.turned (t':=s.toks+1) (λb o hb e=>(sb.2 b hb).trans e) f0 f1 f3 f4 f5;obtain⟨o2,e,c,d⟩:=id st';exact⟨_,rfl,z5D (s:={s with heap:=h',toks:=s.toks+1}) e c d (by decide) ⟨.str ⟨#[z.cps[i]]⟩,H,I1,⟨_,rfl⟩,⟨rfl,z.cps[i],by simp[hg],rfl⟩,st',λb hb=>(hf b hb).1⟩⟩
 done:=by
  intro X hP hw hK hc i pins s O H E I hf st hg;subst hP hw hK;have hg:z.cps.size<=i:=hg;obtain⟨f0,f1,f2,f3,f4,f5⟩:=hf it (by simp);exact wpAny_pyNext_ascii_end (I.ok.hd hc) st (by simp[hg]) λh' eb=>⟨rfl,I.turned (t':=s.toks) (λb o hb e=>eb b o hb e) f0 f1 f3 f4 f5⟩
 self:=λ_ _ _ _ _ st hQ=>wpAny_pyIter_striter_ascii st hQ
theorem zat{X:Cx}{tg l:Expr}{tl:TE}(hl:PE X l tl):PI X tg l (λO H R=>tl O H λx H1=>∃z:Str,x=.str z/\z.cps.all (· < 128)=true/\R (Its z) H1):=by
 intro pins s O H R I h;refine thn (hl pins s O H _ I h) λv s1 ⟨x,H1,I1,r1,z,e,ha,q⟩=>?_;subst e;obtain⟨t,rfl⟩:=r1;refine wpAny_pyIter_ascii ha ?_;refine⟨s1.heap.objs.size,[s1.heap.objs.size],_,_,H1,rfl,I1.kept (t':=s1.toks) λb o e=>_d _ e,z5E _ z t,⟨_,_m _ rfl,rfl,rfl⟩,λb hb=>?_,q⟩;have e:b=s1.heap.objs.size:=by simpa using hb
 subst e;exact I1.fpOk (_i _) (I1.hok.fresh (_i _))
variable {X:Cx}
def xS(x y:Str):List Str:=if (decide (x.length<y.length)||decide (strKind x<strKind y))=true then [x] else if (occurrences x y 0 x.length (x.length+1)).isEmpty=true then [x] else partsBetween x (occurrences x y 0 x.length (x.length+1)) y.length
def wC(sep:Str):List Str->Str
 | [p]=>p | l=>glued sep l
theorem z4Z:MtR X "str.index" (λx vs H Q=>∃(z y:Str)(i:Nat)(r:List Nat),x=.str z/\vs=[.str y]/\occurrences z y 0 z.length 1=i::r/\Q (.int i) H):=by
 intro pins s O H x vs v us Q I rx rv h;obtain⟨z,y,i,r,rfl,rfl,ho,q⟩:=h;obtain⟨t,rfl⟩:=rx;obtain⟨u,rfl,t',rfl⟩:=vals1 rv;exact SC.index ho ⟨.int i,H,I.tok _,⟨_,rfl⟩,q⟩
theorem z0G:MtR X "str.split" (λx vs H Q=>∃(z y:Str),x=.str z/\vs=[.str y]/\(y.length==0)=false/\z.length<=sizeLine/\(xS z y).length<=sizeLine/\∀p,H p=none->Q (.ref p) (upd H p (.lst ((xS z y).map V.str)))):=by
 intro pins s O H x vs v us Q I rx rv h;obtain⟨z,y,rfl,rfl,hy,hz,hl,q⟩:=h;obtain⟨t,rfl⟩:=rx;obtain⟨u,rfl,t',rfl⟩:=vals1 rv;have one:∀(h:xS z y=[z]),EP X pins O Q (.ref s.heap.objs.size) {s with heap:=s.heap.push {cls:=.type "list",data:=.seq [Value.str z t].toArray}}:=λh=>by
  rw[h]at q;exact⟨.ref s.heap.objs.size,_,I.lnew (t':=s.toks) (ys:=[z].map V.str) (.cons ⟨t,rfl⟩ .nil) (show 1<=sizeLine by decide),rfl,q _ I.fresh⟩
 by_cases h1:(decide (z.length<y.length)||decide (strKind z<strKind y))=true;·exact _aY _bG (_aM _ _ _) _bs (_bl _ _) (meets_str_split_cannot_occur z y t t' h1) (one (by unfold xS;rw[_f h1]))
 ·by_cases h2:(occurrences z y 0 z.length (z.length+1)).isEmpty=true;·exact _aY _bG (_aM _ _ _) _bs (_bl _ _) (meets_str_split_not_found z y t t' (by simpa using h1) hy h2) (one (by unfold xS;rw[_o h1,_f h2]))
  ·have e:xS z y=partsBetween z (occurrences z y 0 z.length (z.length+1)) y.length:=by unfold xS;rw[_o h1,_o h2]
   rw[e]at hl q;have vf:∀(l:List Str) (k:Nat),yt (l.map V.str) (strsFrom k l):=by
    intro l;induction l with
    | nil=>intro k;exact .nil | cons a l ih=>intro k;exact .cons ⟨k,rfl⟩ (ih (k+1))
   exact _aY _bG (_aM _ _ _) _bs (_bl _ _) (meets_str_split_sep z y t t' (by simpa using h1) hy (by simpa using h2) hz hl) ⟨.ref s.heap.objs.size,_,I.lnew (t':=s.toks+_) (vf _ _) (by simpa using hl),rfl,q _ I.fresh⟩
theorem z1t:∀{l:List Str}{us:List Value},yt (l.map V.str) us->∃ps:List (Str×Tok),us=strValues ps/\ps.map (·.1)=l
 | [],_,r=>by cases r;exact⟨[],rfl,rfl⟩ | a::l,_,r=>by cases r with | cons r1 r2=>
   obtain⟨t,rfl⟩:=r1;obtain⟨ps,rfl,h⟩:=z1t r2;exact⟨(a,t)::ps,rfl,by simp[h]⟩
theorem jA:MtR X "str.join" (λx vs H Q=>∃(sep:Str)(a:Addr)(l:List Str),x=.str sep/\vs=[.ref a]/\SqL X.K H a (l.map V.str)/\tooLong (l.toArray.foldl (· + ·.length+sep.length) 0)=false/\(wC sep l).length<=sizeLine/\Q (.str (wC sep l)) H):=by
 intro pins s O H x vs v us Q I rx rv h;obtain⟨sep,a,l,rfl,rfl,hq,hl,hz,q⟩:=h;obtain⟨t,rfl⟩:=rx;obtain⟨u,rfl,ru⟩:=vals1 rv;cases ru;obtain⟨its,r,pl,_⟩:=I.list hq;obtain⟨ps,rfl,rfl⟩:=z1t r;refine _aY F.slot_str_join (_aM _ _ _) F.entry_str_join (F.args_str_join_2 _ _) (meets_str_join_list sep t a ps hl) ⟨pl.isList,?_⟩;match ps,q,hz with
 | [],q,hz=>exact⟨hz,⟨.str _,H,I.tok _,⟨_,rfl⟩,q⟩⟩ | [p],q,hz=>exact⟨.str p.1,H,I,⟨_,rfl⟩,q⟩ | p::p'::r',q,hz=>exact⟨hz,⟨.str _,H,I.tok _,⟨_,rfl⟩,q⟩⟩
theorem z4I:yB X (.type "str") (λxs H Q=>∃i:Int,xs=[.int i]/\i.natAbs.log2<1920/\Q (.str (toString i)) H):=by
 intro pins s O H xs us Q I r h;obtain⟨i,rfl,hi,q⟩:=h;obtain⟨u,rfl,t,rfl⟩:=vals1 r;exact P.str_of_int hi ⟨.str (toString i),H,I.tok _,⟨_,rfl⟩,q⟩
theorem z4j:yB X (.type "int") (λxs H Q=>∃(z:Str)(n:Int),xs=[.str z]/\PySem.intText? z=some n/\z.length<=640/\Q (.int n) H):=by
 intro pins s O H xs us Q I r h;obtain⟨z,n,rfl,hn,hl,q⟩:=h;obtain⟨u,rfl,t,rfl⟩:=vals1 r;exact W.KIN.call_text hn hl ⟨.int n,H,I.tok _,⟨_,rfl⟩,q⟩
theorem za3:OpR X (compareOp .In) (λx y H Q=>∃a b:Str,x=.str a/\y=.str b/\Q (.bl !(occurrences b a 0 b.length 1).isEmpty) H):=by
 intro pins s O H x y v u Q I rx ry ⟨a,b,e1,e2,q⟩;subst e1 e2;obtain⟨t,rfl⟩:=rx;obtain⟨t',rfl⟩:=ry;exact P.in_str ⟨.bl _,H,I,rfl,q⟩
theorem z48:OpR X (compareOp .NotIn) (λx y H Q=>∃a b:Str,x=.str a/\y=.str b/\Q (.bl !(!(occurrences b a 0 b.length 1).isEmpty)) H):=by
 intro pins s O H x y v u Q I rx ry ⟨a,b,e1,e2,q⟩;subst e1 e2;obtain⟨t,rfl⟩:=rx;obtain⟨t',rfl⟩:=ry;exact P.notIn_str ⟨.bl _,H,I,rfl,q⟩
theorem z7I:OpR X (compareOp .Eq) (λx y H Q=>∃a b:Str,x=.str a/\y=.str b/\Q (.bl (a.cps.toList==b.cps.toList)) H):=by
 intro pins s O H x y v u Q I rx ry ⟨a,b,e1,e2,q⟩;subst e1 e2;obtain⟨t,rfl⟩:=rx;obtain⟨t',rfl⟩:=ry;exact P.eq_str ⟨.bl _,H,I,rfl,q⟩
end L2
namespace Dd
open L2 PySem.Builtin.Str
section
variable {X:Cx}{E:XK}{o e tg:Expr}{pos:Pos}
theorem z8T{x z:Str}(hg:Gl X x)(hm:∃t,X.mg x=some (.str z t))(hd:(x==("__debug__":Str))=false:=by decide):RE X E (.Name x pos) (eC (.str z)):= let ⟨t,h⟩:=hm;zF (z0u hg h (show yP (.str z) (.str z t) from⟨t,rfl⟩) hd) λO H Q ⟨Y,Z,s,r,en,h⟩=>okR.here (b:=V.str z) h r (by simp[Den])
def jP(f:FE):FI:=λZ s=>(f Z s).bind λd s1=>match d with
 | .str z=>if z.cps.all (· < 128)=true then .ok (z.cps.toList.map λc=>D.str ⟨#[c]⟩,[]) s1 else .no | _=>.no
theorem z7X{f:FE}(h:RE X E e f):RI X E tg e (jP f):=z2P (zat h) λO H Q ⟨Y,Z,s,r,en,h⟩=>by
 unfold jP at h;refine⟨Y,Z,s,r,en,(okR.bind (Dn:=Den (gm X)) h).imp λv H1 ⟨Y1,s1,d,stp,dn,h1⟩=>?_⟩;split at h1
 ·rename_i z;split at h1
  ·rename_i ha;cases yb dn;refine⟨z,rfl,ha,h1.here (b:=Its z) stp.rep ?_⟩;intro H3 Y3 s3 stp3 _ i;refine⟨λd hd=>?_,λhl=>by show z.cps.size<=i;simpa using hl⟩;have hi:i<z.cps.size:=by have:=(_b.mp hd).1;simpa using this
   refine⟨hi,λx H' ⟨e3,c,hc,ex⟩=>?_⟩;subst e3 ex;have:d=.str ⟨#[c]⟩:=by
    have hd:(z.cps.toList.map λc=>D.str ⟨#[c]⟩)[i]? = some d:=hd;rw[_S,Array.getElem?_toList,hc]at hd;exact (_s hd).symm
   subst this;exact⟨Y3,.refl stp3.rep,by simp[Den]⟩
  ·exact h1.elim
 ·exact h1.elim
def eSM(g:Str->D->Sto->R D)(fo fv:FE):FE:=λZ s=>(fo Z s).bind λo s1=>match o with
 | .str z=>(fv Z s1).bind λd s2=>g z d s2 | _=>.no
theorem z5W{name:Str}{id:String}{r:V->List V->Hp->VK->Prop}{g:Str->D->Sto->R D}(slot:Slot "str" name id)(hty:typeOf (.builtin id)=pure (.type "method_descriptor"))(hm:MtR X id r) (hr:∀(H:Hp)(Y:List Addr)(s:Sto)(z:Str)(d:D)(v:V)(Q:VK),Rep (gm X) H Y s->Den (gm X) H Y d v->okR (gm X) E H Y (Den (gm X)) (g z d s) Q->r (.str z) [v] H Q){apos:Pos}{fo fv:FE}(ho:RE X E o fo)(hv:RE X E e fv)(hbase:attributeBase o name X.env (eval o X.env)=eval o X.env:=by rfl) (hfew:((backTo pos (starEach [e] X.env)).all (λx=>!x.1)&&(backToKw pos (keywordEach [] X.env)).all (λx=>x.1.isSome) && decide ([e].length+([]:List Keyword).length+(if ([]:List Keyword).isEmpty then 0 else 1)<30))=true:=by rfl) (hline:(apos.endLine==pos.line)=true:=by rfl)(hs:starEach [e] X.env=(false,eval e X.env)::starEach [] X.env:=by rfl)(hplain:(backTo pos (starEach [] X.env)).any (·.1)=false:=by rfl): RE X E (.Call (.Attribute o name apos) [e] [] pos) (eSM g fo fv):= zF (z6t PySem.F.plainAttrs_str slot hty hm ho (yC hv vH hs) hbase hfew hline hs hplain) λO H Q ⟨Y,Z,s,rp,en,h⟩=>by
  unfold eSM at h;refine⟨Y,Z,s,rp,en,(okR.bind (Dn:=Den (gm X)) h).imp λov H1 ⟨Y1,s1,od,stp,dn,h1⟩=>?_⟩;cases od with
  | str z=>
   cases yb dn;simp only at h1;exact⟨rfl,⟨Y1,Z,s1,stp.rep,en.mono stp,(okR.bind (Dn:=Den (gm X)) h1).imp λv H2 ⟨Y2,s2,d,stp2,dn2,h2⟩=>hr H2 Y2 s2 z d v Q stp2.rep dn2 h2⟩⟩ | _=>exact h1.elim
def z3D(z:Str):D->Sto->R D
 | .str y,s=>match occurrences z y 0 z.length 1 with | i::_=>.ok (.int i) s | []=>.no
 | _,_=>.no
theorem z8q(H:Hp)(Y:List Addr)(s:Sto)(z:Str)(d:D)(v:V)(Q:VK)(r:Rep (gm X) H Y s)(dn:Den (gm X) H Y d v)(h:okR (gm X) E H Y (Den (gm X)) (z3D z d s) Q):∃(z' y:Str)(i:Nat)(r:List Nat),V.str z=.str z'/\[v]=[.str y]/\occurrences z' y 0 z'.length 1=i::r/\Q (.int i) H:=by
 unfold z3D at h;split at h
 ·rename_i y;split at h
  ·rename_i i rr e;cases yb dn;exact⟨z,y,i,rr,rfl,rfl,e,h.here r yd⟩
  ·exact h.elim
 ·exact h.elim
def vq(z:Str):D->Sto->R D
 | .str y,s=>if (y.length==0)=false/\z.length<=cap/\(xS z y).length<=cap then .ok (.loc s.length) (s++[(xS z y).map D.str]) else .no | _,_=>.no
theorem kH:∀l:List Str,D.flat.flats (l.map D.str)=true
 | []=>rfl | x::l=>by rw[_N,D.flat.flats,kH l];rfl
theorem z18{mg:Gm}{H:Hp}{Y:List Addr}:∀l:List Str,zv mg H Y (l.map D.str) (l.map V.str)
 | []=>zv.nil | x::l=>zv.cons (by simp[Den]) (z18 l)
theorem jB(H:Hp)(Y:List Addr)(s:Sto)(z:Str)(d:D)(v:V)(Q:VK)(r:Rep (gm X) H Y s)(dn:Den (gm X) H Y d v)(h:okR (gm X) E H Y (Den (gm X)) (vq z d s) Q):∃(z' y:Str),V.str z=.str z'/\[v]=[.str y]/\(y.length==0)=false/\z'.length<=sizeLine/\(xS z' y).length<=sizeLine/\∀p,H p=none->Q (.ref p) (upd H p (.lst ((xS z' y).map V.str))):=by
 unfold vq at h;split at h
 ·rename_i y;split at h
  ·rename_i hc;cases yb dn;exact⟨z,y,rfl,rfl,hc.1,xO hc.2.1,xO hc.2.2,z6J r h (kH _) (z18 _)⟩
  ·exact h.elim
 ·exact h.elim
def vy:List D->Option (List Str)
 | []=>some [] | .str x::r=>(vy r).map (x::·) | _=>none
theorem z2R:∀{xs:List D}{l:List Str},vy xs=some l->xs=l.map D.str
 | [],l,h=>by simp[vy]at h;subst h;rfl | .str x::xs,l,h=>by
  simp only[vy]at h;obtain⟨r,e,rfl⟩:=_x.mp h;rw[z2R e];rfl | .non::_,_,h=>by simp[vy]at h | .bl _::_,_,h=>by simp[vy]at h | .int _::_,_,h=>by simp[vy]at h | .tup _::_,_,h=>by simp[vy]at h | .lst _::_,_,h=>by simp[vy]at h | .dct::_,_,h=>by simp[vy]at h | .loc _::_,_,h=>by simp[vy]at h | .dlo _::_,_,h=>by simp[vy]at h | .fn _::_,_,h=>by simp[vy]at h | .exc _::_,_,h=>by simp[vy]at h | .scr _::_,_,h=>by simp[vy]at h
theorem z0Z:∀l:List Str,vy (l.map D.str)=some l
 | []=>rfl | x::l=>by rw[_N,vy,z0Z l];rfl
theorem z1F{mg:Gm}{H:Hp}{Y:List Addr}:∀{l:List Str}{vs:List V},zv mg H Y (l.map D.str) vs->vs=l.map V.str
 | [],_,h=>by simpa[zv] using h | i::l,_,h=>by
  simp only[_N,zv]at h;obtain⟨v,r,rfl,h1,h2⟩:=h;rw[yb h1,z1F h2];rfl
def xA(z:Str)(d:D)(s:Sto):R D:=match (Dd.listOf s d).bind vy with
 | some l=>if tooLong (l.toArray.foldl (· + ·.length+z.length) 0)=false/\(wC z l).length<=cap then .ok (.str (wC z l)) s else .no | none=>.no
theorem uA(H:Hp)(Y:List Addr)(s:Sto)(z:Str)(d:D)(v:V)(Q:VK)(r:Rep (gm X) H Y s)(dn:Den (gm X) H Y d v)(h:okR (gm X) E H Y (Den (gm X)) (xA z d s) Q):∃(sep:Str)(a:Addr)(l:List Str),V.str z=.str sep/\[v]=[.ref a]/\SqL X.K H a (l.map V.str)/\tooLong (l.toArray.foldl (· + ·.length+sep.length) 0)=false/\(wC sep l).length<=sizeLine/\Q (.str (wC sep l)) H:=by
 unfold xA at h;split at h
 ·rename_i l e;split at h
  ·rename_i hc;obtain⟨xs,e1,e2⟩:=_av.mp e;obtain⟨a,ws,rfl,q1,q2⟩:=zJ r e1 dn;rw[z2R e2]at q2;cases z1F q2;exact⟨z,a,l,rfl,rfl,.inl q1,hc.1,xO hc.2,h.here r qf⟩
  ·exact h.elim
 ·exact h.elim
def z6b:List D->Sto->R D
 | [.int i],s=>if i.natAbs.log2<1920 then .ok (.str (toString i)) s else .no | _,_=>.no
theorem z9i:∃r,yB X (.type "str") r/\uN X E r z6b:=⟨_,z4I,λH Y s ds vs Q r hd h=>by
 unfold z6b at h;split at h
 ·split at h
  ·rename_i i hi;obtain⟨v,rfl,dn⟩:=qJ hd;cases yp dn;exact⟨i,rfl,hi,h.here r qf⟩
  ·exact h.elim
 ·exact h.elim⟩
def z3w:List D->Sto->R D
 | [.str z],s=>match PySem.intText? z with | some n=>if z.length<=640 then .ok (.int n) s else .no | none=>.no
 | _,_=>.no
theorem zaC:∃r,yB X (.type "int") r/\uN X E r z3w:=⟨_,z4j,λH Y s ds vs Q r hd h=>by
 unfold z3w at h;split at h
 ·split at h
  ·rename_i z w n e;split at h
   ·rename_i hl;obtain⟨v,rfl,dn⟩:=qJ hd;cases yb dn;exact⟨z,n,rfl,e,hl,h.here r yd⟩
   ·exact h.elim
  ·exact h.elim
 ·exact h.elim⟩
def z34(neg:Bool):D->D->Sto->R D
 | .str a,.str b,s=>.ok (.bl (if neg then (occurrences b a 0 b.length 1).isEmpty else !(occurrences b a 0 b.length 1).isEmpty)) s | _,_,_=>.no
theorem zbt:∃r,OpR X (compareOp .In) r/\OpF X E r (z34 false):=⟨_,za3,λH Y s d1 d2 v1 v2 Q r h1 h2 h=>by
 unfold z34 at h;split at h
 ·cases yb h1;cases yb h2;exact⟨_,_,rfl,rfl,h.here r ye⟩
 ·exact h.elim⟩
theorem z5J:∃r,OpR X (compareOp .NotIn) r/\OpF X E r (z34 true):=⟨_,z48,λH Y s d1 d2 v1 v2 Q r h1 h2 h=>by
 unfold z34 at h;split at h
 ·cases yb h1;cases yb h2;exact⟨_,_,rfl,rfl,h.here r (by rw[Bool.not_not];exact ye)⟩
 ·exact h.elim⟩
def z3j:D->D->Sto->R D
 | .str a,.str b,s=>.ok (.bl (a.cps.toList==b.cps.toList)) s | _,_,_=>.no
theorem z5O:∃r,OpR X (compareOp .Eq) r/\OpF X E r z3j:=⟨_,z7I,λH Y s d1 d2 v1 v2 Q r h1 h2 h=>by
 unfold z3j at h;split at h
 ·cases yb h1;cases yb h2;exact⟨_,_,rfl,rfl,h.here r ye⟩
 ·exact h.elim⟩
theorem z0W{mg:Str->Option Value}{h:Heap}{x:Str}{v:Value}{z:Str}(h1:mg x=some v)(r:W.ReadsLit h v (.str z) []):∃t,mg x=some (.str z t):=by cases r with | str x t=>exact⟨t,h1⟩
end
end Dd
namespace K04
open L2 Dd Pg
def rsX:List Str:=["NoLot","NoText"]
def csX:List Str:=["NoLot","NoTable","NoTuple","NotAlike","NotFair","NoText","NoRule","Ended","NoBottom","NoRoot","NoCube","NoSize","NoNumber","TooMany","NoStep","NoDeed","NoRow"]
@[simp] def ub:FS:=(wA 1 (eOp z1w (eC (.str "0123456789")) (eOp z3c (zc 0) (eC (.int 10)))))
@[simp] def xp:FS:=(wA 0 (eOp z3F (zc 0) (eC (.int 10))))
@[simp] def xq:FS:=(wA 1 (eOp yK (eOp z1w (eC (.str "0123456789")) (eOp z3c (zc 0) (eC (.int 10)))) (zc 1)))
@[simp] def ue:FS:=(z1N (tOf (eOp dGe (zc 0) (eC (.int 10)))) (zM xp xq))
@[simp] def kC:FS:=(xV (zc 1))
def uJ:FS:=(zM ub (zM ue kC))
def yz:Mir:=Mof ["number","figures"] 1 uJ
@[simp] def jz:FS:=(xV (eC (.bl false)))
@[simp] def zT:FS:=(fIf (fOr (tOf (eOp z3j (zc 0) (eC (.str "")))) (kg (tOf (zf z44 (za (yE (jP (zc 0)) [none] (wa 0) vR (eOp (z34 false) (zc 0) (eC (.str "0123456789")))) zj))))) jz yO)
@[simp] def xW:FS:=(xV (eOr (eOp z3j (zc 0) (eC (.str "0"))) (eOp z5s (eOp z1w (zc 0) (eC (.int 0))) (eC (.str "0")))))
def vY:FS:=(zM zT xW)
def yi:Mir:=Mof ["word"] 1 vY
@[simp] def z0K:FS:=(wA 1 (eC (.int 0)))
@[simp] def xE:FS:=(wA 1 (eOp xy (eOp wx (eC (.int 10)) (zc 1)) (eSM z3D (eC (.str "0123456789")) (zc 2))))
@[simp] def wV:FS:=(z4t (jP (zc 0)) (wa 2) xE)
@[simp] def z0E:FS:=(xV (zc 1))
def qB:FS:=(zM z0K (zM wV z0E))
def yH:Mir:=Mof ["figures","number","sign"] 1 qB
@[simp] def jb:FS:=(wA 1 (vd (za (z0O rsX "NoLot" (zc 0)) (za (z0O rsX "NoTable" (zc 0)) (za (z0O rsX "NoTuple" (zc 0)) (za (z0O rsX "NotAlike" (zc 0)) zj))))))
@[simp] def qG:FS:=(wA 1 (eOp xy (zc 1) (vd (za (z0O rsX "NotFair" (zc 0)) (za (z0O rsX "NoText" (zc 0)) (za (z0O rsX "NoRule" (zc 0)) (za (z0O rsX "Ended" (zc 0)) zj)))))))
@[simp] def qV:FS:=(wA 1 (eOp xy (zc 1) (vd (za (z0O rsX "NoBottom" (zc 0)) (za (z0O rsX "NoRoot" (zc 0)) (za (z0O rsX "NoCube" (zc 0)) (za (z0O rsX "NoSize" (zc 0)) zj)))))))
@[simp] def qU:FS:=(wA 1 (eOp xy (zc 1) (vd (za (z0O rsX "NoNumber" (zc 0)) (za (z0O rsX "TooMany" (zc 0)) (za (z0O rsX "NoStep" (zc 0)) (za (z0O rsX "NoDeed" (zc 0)) zj)))))))
@[simp] def qL:FS:=(wA 1 (eOp xy (zc 1) (vd (za (z0O rsX "NoRow" (zc 0)) zj))))
@[simp] def qR:FS:=(xV (eC (.str "other")))
@[simp] def jc:FS:=(fIf (fOr (tOf (eOp dNe (z8h (zc 1) (eC (.bl true))) (eC (.int 1)))) (kg (tOf (zcq rsX (zc 0))))) qR yO)
@[simp] def qN:FS:=(wA 2 (vd (za (eC (.str "lot")) (za (eC (.str "table")) (za (eC (.str "tuple")) (za (eC (.str "alike")) (za (eC (.str "fair")) (za (eC (.str "text")) (za (eC (.str "rule")) (za (eC (.str "ended")) (za (eC (.str "bottom")) zj)))))))))))
@[simp] def qT:FS:=(wA 2 (eOp xy (zc 2) (vd (za (eC (.str "root")) (za (eC (.str "cube")) (za (eC (.str "size")) (za (eC (.str "number")) (za (eC (.str "many")) (za (eC (.str "step")) (za (eC (.str "deed")) (za (eC (.str "row")) zj)))))))))))
@[simp] def uV:FS:=(xV (eOp dIx (zc 2) (z87 (zc 1) (eC (.bl true)))))
def jV:FS:=(zM jb (zM qG (zM qV (zM qU (zM qL (zM jc (zM qN (zM qT uV))))))))
def yo:Mir:=Mof ["_law_e","_law_some","_law_words"] 1 jV
@[simp] def z1O:FS:=(xV (eC (.str "text")))
@[simp] def xw:FS:=(fIf (kg (tOf (eIs "str" (zc 0)))) z1O yO)
@[simp] def vC:FS:=(wA 1 (z8R zj))
@[simp] def z0R:FS:=(xV (eC (.str "text")))
@[simp] def zL:FS:=(fIf (fOr (tOf (eOp z3j (zc 2) (eC (.str "")))) (tOf (eOp dNe (yE (jP (zc 2)) [none] (wa 0) (tOf (eOp (z34 true) (zc 0) (eC (.str "0123456789")))) (zc 0)) (vd zj)))) z0R yO)
@[simp] def z1c:FS:=(xV (eC (.str "text")))
@[simp] def zH:FS:=(fIf (zbl (tOf (eOp z3j (eOp z1w (zc 2) (eC (.int 0))) (eC (.str "0")))) (tOf (eOp z5s (zc 2) (eC (.str "0"))))) z1c yO)
@[simp] def zK:FS:=(z2q (z8Q (zc 1) (zf z3w (za (zc 2) zj))))
@[simp] def vF:FS:=(z4t (xu (z2e (eSM vq (zc 0) (eC (.str ":"))))) (wa 2) (zM zL (zM zH zK)))
@[simp] def va:FS:=(xV (eIf (tOf (zf Pg.zE (za (zf uc (za (zc 1) zj)) zj))) (zf uc (za (zc 1) zj)) (eC (.str "text"))))
def ui:FS:=(zM xw (zM vC (zM vF va)))
def yn:Mir:=z3U (Mof ["_law_text","_law_found","_law_word"] 1 ui)
@[simp] def yq:FS:=(wA 2 (eC (.str " !\"#$&'()*+,-./0123456789:;<=>?@ABCDEFGHIJKLMNOPQRSTUVWXYZ[\\]^_`")))
@[simp] def zN:FS:=(wA 2 (eOp yK (zc 2) (eC (.str "abcdefghijklmnopqrstuvwxyz{|}~\t\n"))))
@[simp] def yR:FS:=(wA 3 (eOp dIx (vd (za (eC (.str "0")) (za (eC (.str "1")) (za (eC (.str ":")) (za (eOp z1w (zc 2) (zf Pg.zg (za (zc 0) (za (zf z05 (za (zc 2) zj)) zj)))) zj))))) (zf Pg.zg (za (zc 0) (za (eC (.int 4)) zj)))))
@[simp] def yS:FS:=(wA 4 (zf Pg.zg (za (zc 0) (za (eOp xy (zf z05 (za (zc 1) zj)) (eC (.int 1))) zj))))
@[simp] def yY:FS:=(wA 5 (z2e (eSM vq (zc 1) (eC (.str ":")))))
@[simp] def yX:FS:=(wA 6 (zf Pg.zg (za (zc 0) (za (zf wb (za (zc 5) zj)) zj))))
@[simp] def yT:FS:=(wA 7 (eOp dIx (vd (za (eC (.str "")) (za (eC (.str "-0")) (za (eC (.str "00")) (za (eC (.str "01")) (za (eC (.str "-1")) (za (eC (.str "+1")) (za (eC (.str "1_0")) (za (eC (.str " 1")) (za (eC (.str "0")) (za (eC (.str "7")) zj))))))))))) (zf Pg.zg (za (zc 0) (za (eC (.int 10)) zj)))))
@[simp] def yU:FS:=(wA 8 (vd (za (eOp yK (eOp yK (z5r (zc 1) (yh (zc 4))) (zc 3)) (z6G (zc 1) (yh (zc 4)))) (za (eOp yK (z5r (zc 1) (yh (zc 4))) (z6G (zc 1) (yh (eOp xy (zc 4) (eC (.int 1)))))) (za (eOp yK (eOp yK (z5r (zc 1) (yh (zc 4))) (zc 3)) (z6G (zc 1) (yh (eOp xy (zc 4) (eC (.int 1)))))) (za (eOp yK (zc 1) (eC (.str ":"))) zj))))))
@[simp] def yW:FS:=(wA 8 (eOp xy (zc 8) (vd (za (eSM xA (eC (.str ":")) (eOp xy (eOp xy (eSl (zc 5) zO (yh (zc 6))) (vd (za (zc 7) zj))) (eSl (zc 5) (yh (eOp xy (zc 6) (eC (.int 1)))) zO))) (za (eSM xA (eC (.str ":")) (eOp xy (eSl (zc 5) zO (yh (zc 6))) (eSl (zc 5) (yh (eOp xy (zc 6) (eC (.int 1)))) zO))) zj)))))
@[simp] def yI:FS:=(wA 8 (eOp xy (zc 8) (vd (za (eOp yK (eOp yK (zc 1) (eC (.str ":"))) (zc 1)) (za (eOp yK (eC (.str ":")) (zc 1)) (za (eC (.str "")) (za (eSM xA (eC (.str ":")) (yE (xu (zc 5)) [none] (wa 0) vR (eC (.str "0")))) (za (zf Pg.xg (za (zc 0) zj)) zj))))))))
@[simp] def xU:FS:=(xV (eOp dIx (zc 8) (zf Pg.zg (za (zc 0) (za (eC (.int 11)) zj)))))
def wN:FS:=(zM yq (zM zN (zM yR (zM yS (zM yY (zM yX (zM yT (zM yU (zM yW (zM yI xU))))))))))
def zG:Mir:=Mof ["_law_pot_here","_law_text","_law_signs","_law_sign","_law_at","_law_words","_law_spot","_law_word","_law_some"] 2 wN
@[simp] def xF:FS:=(wA 1 (eIf (tOf (eIs "str" (zc 0))) (z2e (eSM vq (zc 0) (eC (.str ":")))) (vd zj)))
@[simp] def xC:FS:=(wA 2 (zf uc (za (yE (xu (zc 1)) [none] (wa 0) (tOf (zf yi (za (zc 0) zj))) (zf yH (za (zc 0) zj))) zj)))
@[simp] def z6E:FS:=(xV (zc 2))
@[simp] def xb:FS:=(fIf (fOr (tOf (eOp dNe (zf wb (za (zc 2) zj)) (zf wb (za (zc 1) zj)))) (kg (tOf (zf Pg.zx (za (zc 2) zj))))) (z3f "NoText") yO)
def uz:FS:=(zM (xH xF) (zM (xH xC) (zM xb (xH z6E))))
def vK:Mir:=z2z ["text","words","lot"] 1 uz
@[simp] def vk:FS:=(xV (eSM xA (eC (.str ":")) (yE (xu (zc 0)) [none] (wa 0) vR (zf yz (za (zc 0) zj)))))
@[simp] def wq:FS:=(z2q (zf Pg.xh (za (zc 0) zj)))
def uk:FS:=(zM wq (xH vk))
def yV:Mir:=z2z ["lot"] 1 uk
@[simp] def yk:FS:=(xV (z3o (eOp dIx (vd (za (eC (.fn "read")) (za (eC (.fn "written")) zj))) (zc 0)) [("read",vK),("written",yV)] (za (zc 1) zj)))
@[simp] def wS:FS:=(xV (zf yo (za (zc 2) zj)))
@[simp] def wU:FS:=(z9Z rsX yk 2 wS)
def vG:FS:=wU
def zA:Mir:=Mof ["_law_way","_law_thing","_law_e"] 2 vG
@[simp] def z8G:FS:=(xV (eC (.bl false)))
@[simp] def z24:FS:=(fIf (kg (tOf (zf Pg.zQ (za (zf zA (za (eC (.int 0)) (za (zc 1) zj))) (za (zf yn (za (zc 1) zj)) zj))))) z8G yO)
@[simp] def z2g:FS:=(z4t (xu (vd (za (eC (.str "0:0")) (za (eC (.str "1")) (za (eC (.str "0:1")) (za (eC (.str "1:2:3:4")) (za (eC (.str "1:2:3:4:5")) (za (eC (.str "")) (za (eC (.str ":")) (za (eC (.str "01:1")) zj)))))))))) (wa 1) z24)
@[simp] def z04:FS:=(wA 3 (zf Pg.xK (za (zf Pg.ym (za (zc 0) (za (zc 2) zj))) zj)))
@[simp] def z0a:FS:=(wA 4 (zf Pg.wL (za (zc 3) zj)))
@[simp] def z0n:FS:=(wA 1 (eSM xA (eC (.str ":")) (yE (xu (zc 4)) [none] (wa 0) vR (zf z6b (za (zc 0) zj)))))
@[simp] def z7J:FS:=(xV (eC (.bl false)))
@[simp] def z0g:FS:=(fIf (fOr (kg (tOf (zf Pg.zQ (za (zf zA (za (eC (.int 1)) (za (zc 4) zj))) (za (zc 1) zj))))) (kg (tOf (zf Pg.zQ (za (zf zA (za (eC (.int 0)) (za (zc 1) zj))) (za (zc 4) zj)))))) z7J yO)
@[simp] def z68:FS:=(xV (eC (.bl false)))
@[simp] def z0i:FS:=(fIf (kg (tOf (zf Pg.zQ (za (zf zA (za (eC (.int 0)) (za (zc 5) zj))) (za (zf yn (za (zc 5) zj)) zj))))) z68 yO)
@[simp] def jg:FS:=(z4t (xu (vd (za (zf zG (za (zc 3) (za (zc 1) zj))) (za (zf zG (za (zc 3) (za (zc 1) zj))) (za (zc 1) zj))))) (wa 5) z0i)
@[simp] def jl:FS:=(wA 6 (eOp dIx (vd (za (zf z3X (za (zc 4) zj)) (za (jM zj) (za (eSl (zc 4) zO (yh (eC (.int 1)))) (za (jM (za (eC (.int 0)) (za (eC (.int 0)) zj))) (za (eC .non) (za (zc 1) (za (eOp xy (jM (za (eC (.bl true)) zj)) (eSl (zc 4) (yh (eC (.int 1))) zO)) zj)))))))) (zf Pg.zg (za (zc 3) (za (eC (.int 7)) zj)))))
@[simp] def z6o:FS:=(xV (eC (.bl false)))
@[simp] def jk:FS:=(fIf (tOf (eOp z5s (zf zA (za (eC (.int 1)) (za (zc 6) zj))) (eC (.str "lot")))) z6o yO)
@[simp] def z2o:FS:=(z4t (z7r (za (zf z6i (za (eC (.int 1)) (za (zf z6C (za (zf wb (za (zc 0) zj)) (za (eC (.int 25)) zj))) zj))) zj)) (wa 2) (zM z04 (zM z0a (zM z0n (zM z0g (zM jg (zM jl jk)))))))
@[simp] def z3s:FS:=(xV (eC (.bl true)))
def z6K:FS:=(zM z2g (zM z2o z3s))
def z8f:Mir:=Mof ["_law_script","_law_text","_law_k","_law_pot_here","_law_lot_here","_law_thing","_law_bad"] 1 z6K
end K04
set_option maxHeartbeats 6000000
namespace K04
open L2 Dd Pg
structure Txt(mg:Str->Option Value):Prop where
 f0:∃t,mg "BETWEEN"=some (.str ":" t)
 f1:∃t,mg "FIGURES"=some (.str "0123456789" t)
 f2:∃t,mg "LEAST_SIZE"=some (.int 2 t)
 f3:∃t,mg "MOST_SIZE"=some (.int 4 t)
 f4:mg "ValueError"=none
 f5:mg "all"=none
 f6:mg "bool"=none
 f7:mg "int"=none
 f8:mg "isinstance"=none
 f9:mg "len"=none
 f10:mg "list"=none
 f11:mg "max"=none
 f12:mg "min"=none
 f13:mg "range"=none
 f14:mg "str"=none
 f15:mg "tuple"=none
 f16:mg "zip"=none
theorem z4a:bootBuiltins "all"=some (.builtin "all"):=by decide +kernel
theorem jQ:bootBuiltins "bool"=some (.type "bool"):=by decide +kernel
theorem z3i:bootBuiltins "int"=some (.type "int"):=by decide +kernel
theorem wF:bootBuiltins "len"=some (.builtin "len"):=by decide +kernel
theorem z07:bootBuiltins "list"=some (.type "list"):=by decide +kernel
theorem z15:bootBuiltins "max"=some (.builtin "max"):=by decide +kernel
theorem z7a:bootBuiltins "min"=some (.builtin "min"):=by decide +kernel
theorem z39:bootBuiltins "str"=some (.type "str"):=by decide +kernel
theorem xm:bootBuiltins "tuple"=some (.type "tuple"):=by decide +kernel
theorem zdc:(["_law_number"]:List Str).Nodup:=by decide +kernel
theorem zcG:(["_law_more","_law_number"]:List Str).Nodup:=by decide +kernel
theorem zd7:(["_law_one"]:List Str).Nodup:=by decide +kernel
theorem zdu:(["_law_one","_law_other"]:List Str).Nodup:=by decide +kernel
theorem zcH:(["number"]:List Str).Nodup:=by decide +kernel
theorem zcQ:(["word"]:List Str).Nodup:=by decide +kernel
theorem zd5:(["sign"]:List Str).Nodup:=by decide +kernel
theorem zcT:(["part"]:List Str).Nodup:=by decide +kernel
theorem zd8:(["_law_sign"]:List Str).Nodup:=by decide +kernel
section
local macro_rules | `(tactic| trivial)=>`(tactic| exact⟨rfl,rfl,rfl,by decide +kernel,rfl,by decide +kernel,by decide +kernel⟩)
theorem z2r:zC ["thing"] ["thing"] (zh uu):=by trivial
theorem z2x:zC ["thing"] ["thing"] (zh um):=by trivial
theorem xI:zC ["number","figures"] ["number"] (zh vp):=by trivial
theorem kq:zC ["word"] ["word"] (zh wB):=by trivial
theorem wf:zC ["figures","number","sign"] ["figures"] (zh vS):=by trivial
theorem jC:zC ["_law_script","_law_k"] ["_law_script","_law_k"] (zh xP):=by trivial
theorem xi:zC ["_law_cell","_law_number","_law_j","_law_more"] ["_law_cell"] (zh uw):=by trivial
theorem ql:zC ["_law_pot_here","_law_far","_law_found"] ["_law_pot_here","_law_far"] (zh vT):=by trivial
theorem z0e:zC ["_law_thing"] ["_law_thing"] (zh vt):=by trivial
theorem zI:zC ["_law_e","_law_some","_law_words"] ["_law_e"] (zh xL):=by trivial
theorem z0b:zC ["thing","many"] ["thing","many"] (zh wT):=by trivial
theorem yu:zC ["_law_pot_here","_law_size","_law_far","_law_thin","_law_numbers","_law_place","_law_number","_law_more"] ["_law_pot_here"] (zh ut):=by trivial
theorem vZ:zC ["_law_thing","_law_number"] ["_law_thing"] (zh wz):=by trivial
theorem jD:zC ["_law_pot_here","_law_some"] ["_law_pot_here"] (zh ur):=by trivial
theorem z21:zC ["_law_found","_law_due_here"] ["_law_found","_law_due_here"] (zh wg):=by trivial
theorem z4m:zC ["thing"] ["thing"] (zh kc):=by trivial
theorem ug:zC ["_law_text","_law_found","_law_word"] ["_law_text"] (zh uq):=by trivial
theorem zq:zC ["_law_pot_here","_law_text","_law_signs","_law_sign","_law_at","_law_words","_law_spot","_law_word","_law_some"] ["_law_pot_here","_law_text"] (zh xk):=by trivial
theorem z26:zC ["thing"] ["thing"] (zh uh):=by trivial
theorem z2E:zC ["text","words","lot"] ["text"] (zh z2m):=by trivial
theorem z3K:zC ["lot"] ["lot"] (zh qc):=by trivial
theorem qm:zC ["_law_way","_law_thing","_law_e"] ["_law_way","_law_thing"] (zh vD):=by trivial
theorem qu:zC ["_law_script","_law_text","_law_k","_law_pot_here","_law_lot_here","_law_thing","_law_bad"] ["_law_script"] (zh kD):=by trivial
end
section
variable {P:Program}{w:World}{K:W.Frag}{mg:Str->Option Value}{base:Heap}(T:Txt mg){f:Addr}{fd:FuncData}
include T
local macro_rules | `(tactic| trivial)=>`(tactic| first | exact (λ_ _ _ _ _ _ us hl=>match us,hl with | [_],_=>rfl) | exact (λ_ _ _ _ _ _ us hl=>match us,hl with | [_,_],_=>rfl))
theorem z1K(F:Fun K "is_whole" "is_whole" uu f fd)(hm:mg "is_whole"=some (.ref f))  : Has P w K mg base CX0 "is_whole" 1 Pg.yN:= (xf F hm (F.binds (ps:=["thing"]) (by trivial)) z2r rfl λcdv A outer s H E hr hc=> have hu:=hr.units;(zo (yc (z2u (z1d (by decide) z3i (by rfl) T.f8 (by rfl) T.f7 (zb 0)) (z1o (z9y (z1d (by decide) jQ (by rfl) T.f8 (by rfl) T.f6 (zb 0))))))))
theorem z1A (F:Fun K "has_size" "has_size" um f fd) (hm:mg "has_size"=some (.ref f))  : Has P w K mg base CX0 "has_size" 1 Pg.zR:= (xf F hm (F.binds (ps:=["thing"]) (by trivial)) z2x rfl λcdv A outer s H E hr hc=> have hu:=hr.units;(zo (yc (z2u (z1d (by decide) xm (by rfl) T.f8 (by rfl) T.f15 (zb 0)) (z1o (z83 zcc zcc (zcB (by rfl) T.f2) (zS jx (by rfl) T.f9 wF (aN (zb 0) zi) (he:=(zk ..))) (zcB (by rfl) T.f3)))))))
theorem ki(F:Fun K "in_figures" "in_figures" vp f fd)(hm:mg "in_figures"=some (.ref f))  : Has P w K mg base CX0 "in_figures" 1 yz:= (xf F hm (F.binds (ps:=["number"]) (by trivial)) xI rfl λcdv A outer s H E hr hc=> have hu:=hr.units;(zd (yg 1 xI.nd (z5g (z8T (by rfl) T.f1) (zD z3J (zb 0) zm))) (zd (z7H _ae (yD zaZ (zb 0) zm) (zd (yg 0 xI.nd (zD z7c (zb 0) zm)) (zo (yg 1 xI.nd (zD vz (z5g (z8T (by rfl) T.f1) (zD z3J (zb 0) zm)) (zb 1)))))) (zo (yc (zb 1))))))
theorem jL (F:Fun K "are_figures" "are_figures" wB f fd) (hm:mg "are_figures"=some (.ref f))  : Has P w K mg base CX0 "are_figures" 1 yi:= (xf F hm (F.binds (ps:=["word"]) (by trivial)) kq rfl λcdv A outer s H E hr hc=> have hu:=hr.units;(zd (jn (RW.rt (z45 (yD z5O (zb 0) zB) (jG (uH (wH (zS (z7W (by exact hc)) (by rfl) T.f5 z4a (aO (vh ["sign"] [none] (by exact hc) (z7X (zb 0)) (λ_ _ _=>xZ (i:=0) zd5 (by rfl) (by first | exact Or.inl rfl | exact Or.inr rfl)) (wr 0 (by rfl)) (λ_ _ _=>uj) (λ_ _ _=>(vA zbt (zb 0) (z8T (by rfl) T.f1)))) zi) (he:=(wJ ..)))))))) (zo (yc z1L)) yx) (zo (yc (zd9 (vA z5O (zb 0) zB) (z1o (vA z85 (z5g (zb 0) zm) zB)))))))
theorem z0L(F:Fun K "number_in" "number_in" vS f fd)(hm:mg "number_in"=some (.ref f))  : Has P w K mg base CX0 "number_in" 1 yH:= (xf F hm (F.binds (ps:=["figures"]) (by trivial)) wf rfl λcdv A outer s H E hr hc=> have hu:=hr.units;(zd (yg 1 wf.nd zm) (zd (z1C _ae hc (z7X (zb 0)) (qF 2 wf.nd) (zo (yg 1 wf.nd (zD xj (zD qs zm (zb 1)) (z5W PySem.F.slot_str_index PySem.F.type_str_index z4Z z8q (z8T (by rfl) T.f1) (zb 2)))))) (zo (yc (zb 1))))))
theorem qY (F:Fun K "_law_cell_at" "_law_cell_at" xP f fd) (hm:mg "_law_cell_at"=some (.ref f))  : Has P w K mg base CX0 "_law_cell_at" 1 Pg.ym:= (xf F hm (F.binds (ps:=["_law_script","_law_k"]) (by trivial)) jC rfl λcdv A outer s H E hr hc=> have hu:=hr.units;(zd (jn (yD zcz (zb 1) (zS jx (by rfl) T.f9 wF (aN (zb 0) zi) (he:=(zk ..)))) (zo (yc (z46 (zb 0) (zb 1)))) yx) (zo (yc zm))))
theorem z1Q(F:Fun K "_law_pot" "_law_pot" uw f fd)(hm:mg "_law_pot"=some (.ref f))  : Has P w K mg base CX0 "_law_pot" 1 Pg.xK:= (xf F hm (F.binds (ps:=["_law_cell"]) (by trivial)) xi rfl λcdv A outer s H E hr hc=> have hu:=hr.units;(zd (jn (yD zaZ (zb 0) (zD z4S zm zm)) (zo (yc (z6q (aB (zD zbL (zb 0) (zD z4S zm zm)) zi)))) yx) (zd (yg 1 xi.nd zm) (zd (z1C _ae hc (z2f (by rfl) T.f13 (aK zm zi)) (qF 2 xi.nd) (zd (yg 3 xi.nd (zD z3J (zD qs (zD xj (zD xj (zD z3J (zb 0) zm) (zD qs zm (zb 2))) zm) zm) zm)) (zd (yg 3 xi.nd (zD z3J (zD xj (zD xj (zD qs (zb 3) (zb 3)) (zD qs zm (zb 2))) zm) zm)) (zo (yg 1 xi.nd (zD xj (zD qs (zb 1) zm) (zb 3))))))) (zo (yc (z6q (aN (zb 1) zi))))))))
theorem kT(F:Fun K "_law_take" "_law_take" vT f fd)(hm:mg "_law_take"=some (.ref f))  : Has P w K mg base CX0 "_law_take" 1 Pg.zg:= (xf F hm (F.binds (ps:=["_law_pot_here","_law_far"]) (by trivial)) ql rfl λcdv A outer s H E hr hc=> have hu:=hr.units;(zd (yg 2 ql.nd (zD z3J (z46 (zb 0) zm) (zb 1))) (zd (z3g (zD z7c (z46 (zb 0) zm) (zb 1)) (zb 0) zm) (zo (yc (zb 2))))))
theorem kh(F:Fun K "_law_whole" "_law_whole" vt f fd)(hm:mg "_law_whole"=some (.ref f))  : Has P w K mg base CX0 "_law_whole" 1 Pg.zZ:= (xf F hm (F.binds (ps:=["_law_thing"]) (by trivial)) z0e rfl λcdv A outer s H E hr hc=> have hu:=hr.units;(zo (yc (z2u (z1d (by decide) z3i (by rfl) T.f8 (by rfl) T.f7 (zb 0)) (z1o (z9y (z1d (by decide) jQ (by rfl) T.f8 (by rfl) T.f6 (zb 0))))))))
theorem qM(F:Fun K "_law_kind_of" "_law_kind_of" xL f fd)(hm:mg "_law_kind_of"=some (.ref f))(FM:z1b ⟨mg,K⟩ rsX csX):zaX P w K mg base CX0 "_law_kind_of" 1 yo:= z7S F hm (F.binds (ps:=["_law_e"]) (by trivial)) zI rfl λcdv A outer s H E hr=> have hu:=hr.units;(zd (yg 1 zI.nd (xR (aQ (vQ FM (by decide) (by rfl) T.f8 (by rfl) (zb 0)) (aQ (vQ FM (by decide) (by rfl) T.f8 (by rfl) (zb 0)) (aQ (vQ FM (by decide) (by rfl) T.f8 (by rfl) (zb 0)) (aQ (vQ FM (by decide) (by rfl) T.f8 (by rfl) (zb 0)) zi)))))) (zd (yg 1 zI.nd (zD xj (zb 1) (xR (aQ (vQ FM (by decide) (by rfl) T.f8 (by rfl) (zb 0)) (aQ (vQ FM (by decide) (by rfl) T.f8 (by rfl) (zb 0)) (aQ (vQ FM (by decide) (by rfl) T.f8 (by rfl) (zb 0)) (aQ (vQ FM (by decide) (by rfl) T.f8 (by rfl) (zb 0)) zi))))))) (zd (yg 1 zI.nd (zD xj (zb 1) (xR (aQ (vQ FM (by decide) (by rfl) T.f8 (by rfl) (zb 0)) (aQ (vQ FM (by decide) (by rfl) T.f8 (by rfl) (zb 0)) (aQ (vQ FM (by decide) (by rfl) T.f8 (by rfl) (zb 0)) (aQ (vQ FM (by decide) (by rfl) T.f8 (by rfl) (zb 0)) zi))))))) (zd (yg 1 zI.nd (zD xj (zb 1) (xR (aQ (vQ FM (by decide) (by rfl) T.f8 (by rfl) (zb 0)) (aQ (vQ FM (by decide) (by rfl) T.f8 (by rfl) (zb 0)) (aQ (vQ FM (by decide) (by rfl) T.f8 (by rfl) (zb 0)) (aQ (vQ FM (by decide) (by rfl) T.f8 (by rfl) (zb 0)) zi))))))) (zd (yg 1 zI.nd (zD xj (zb 1) (xR (aQ (vQ FM (by decide) (by rfl) T.f8 (by rfl) (zb 0)) zi)))) (zd (jn (RW.rt (z45 (yD (z8O hu) (z5x (zb 1) z1L) zm) (jG (uH (wH (zbc FM (by rfl) T.f8 (by rfl) T.f4 (zb 0))))))) (zo (yc zB)) yx) (zd (yg 2 zI.nd (xR (aK zB (aK zB (aK zB (aK zB (aK zB (aK zB (aK zB (aK zB (aK zB zi))))))))))) (zd (yg 2 zI.nd (zD xj (zb 2) (xR (aK zB (aK zB (aK zB (aK zB (aK zB (aK zB (aK zB (aK zB zi))))))))))) (zo (yc (z46 (zb 2) (z6f (zb 1) z1L))))))))))))
theorem kn (F:Fun K "are_wholes" "are_wholes" wT f fd) (hm:mg "are_wholes"=some (.ref f)) (H_is_whole:Has P w K mg base CX0 "is_whole" 1 Pg.yN):Has P w K mg base CX0 "are_wholes" 2 Pg.zP:= (xf F hm (F.binds (ps:=["thing","many"]) (by trivial)) z0b rfl λcdv A outer s H E hr hc=> have hu:=hr.units;(zd (jn (RW.rt (z45 (uH (wH (z1d (by decide) xm (by rfl) T.f8 (by rfl) T.f15 (zb 0)))) (jG (yD (z8O hu) (zS jx (by rfl) T.f9 wF (aN (zb 0) zi) (he:=(zk ..))) (zb 1))))) (zo (yc z1L)) yx) (zo (yc (zS (z7W (by exact hc)) (by rfl) T.f5 z4a (aO (vh ["part"] [none] (by exact hc) (kB (zb 0)) (λ_ _ _=>xZ (i:=0) zcT (by rfl) (by first | exact Or.inl rfl | exact Or.inr rfl)) (wr 0 (by rfl)) (λ_ _ _=>uj) (λ_ _ _=>(xX H_is_whole hr zW (aN (zb 0) zi)))) zi) (he:=(wJ ..)))))))
theorem z0U (F:Fun K "_law_lot" "_law_lot" ut f fd) (hm:mg "_law_lot"=some (.ref f)) (H__law_take:Has P w K mg base CX0 "_law_take" 1 Pg.zg):Has P w K mg base CX0 "_law_lot" 2 Pg.wL:= (xf F hm (F.binds (ps:=["_law_pot_here"]) (by trivial)) yu rfl λcdv A outer s H E hr hc=> have hu:=hr.units;(zd (yg 1 yu.nd (zD xj zm (xX H__law_take hr zW (aN (zb 0) (aK zm zi))))) (zd (yg 2 yu.nd (z46 (xR (aK zm (aK zm (aB (zD z4S zm zm) (aB (zD z4S zm zm) (aK zm (aK zm zi))))))) (xX H__law_take hr zW (aN (zb 0) (aK zm zi))))) (zd (yg 3 yu.nd (xX H__law_take hr zW (aN (zb 0) (aK zm zi)))) (zd (yg 4 yu.nd (z6q zi)) (zd (z1C _ae hc (z2f (by rfl) T.f13 (aN (zb 1) zi)) (qF 5 yu.nd) (zd (yg 6 yu.nd (zD xj (xX H__law_take hr zW (aN (zb 0) (aN (zb 2) zi))) zm)) (zo (z5a (z3n (zb 4) (zD qs (zb 6) (vB zbC (by rfl) T.f7 z3i (aM (vA zaZ (xX H__law_take hr zW (aN (zb 0) (aK zm zi))) (zb 3)) zi) (he:=(z2O ..))))))))) (zd (jn (yD (z7y hu) (zS (z32 (by exact hc)) (by rfl) T.f11 z15 (aN (zb 4) zi) (he:=(zk ..))) zm) (zo (z3g (zD xj zm (xX H__law_take hr zW (aN (zb 0) (aN (zb 2) zi)))) (zb 4) (xX H__law_take hr zW (aN (zb 0) (aN (zb 1) zi))))) yx) (zd (yg 7 yu.nd (zD xj zm (xX H__law_take hr zW (aN (zb 0) (aK zm zi))))) (zd (jn (yD (z7y hu) (xX H__law_take hr zW (aN (zb 0) (aK zm zi))) zm) (zo (z3g (z46 (zb 4) (xX H__law_take hr zW (aN (zb 0) (aN (zb 1) zi)))) (zb 4) (xX H__law_take hr zW (aN (zb 0) (aN (zb 1) zi))))) yx) (zd (jn (yD (z7y hu) (zS (z32 (by exact hc)) (by rfl) T.f11 z15 (aN (zb 4) zi) (he:=(zk ..))) zm) (zo (z3g zm (zb 4) zm)) yx) (zo (yc (vB z0N (by rfl) T.f15 xm (aO (vh ["_law_more","_law_number"] [some 7,none] (by exact hc) (kB (zb 4)) (λ_ _ _=>xZ (i:=1) zcG (by rfl) (by first | exact Or.inl rfl | exact Or.inr rfl)) (wr 1 (by rfl)) (λ_ _ _=>uj) (λ_ _ _=>(zD qs (zb 1) (zb 0)))) zi) (he:=(wJ ..))))))))))))))).tidy
theorem jO (F:Fun K "_law_is_lot" "_law_is_lot" wz f fd) (hm:mg "_law_is_lot"=some (.ref f)) (H__law_whole:Has P w K mg base CX0 "_law_whole" 1 Pg.zZ):Has P w K mg base CX0 "_law_is_lot" 2 Pg.zE:= (xf F hm (F.binds (ps:=["_law_thing"]) (by trivial)) vZ rfl λcdv A outer s H E hr hc=> have hu:=hr.units;(zd (jn (RW.rt (z45 (uH (wH (z1d (by decide) xm (by rfl) T.f8 (by rfl) T.f15 (zb 0)))) (jG (yD z7Q (zS jx (by rfl) T.f9 wF (aN (zb 0) zi) (he:=(zk ..))) (jv (aK zm (aK zm (aK zm zi)))))))) (zo (yc z1L)) yx) (zd (z1C _ae hc (kB (zb 0)) (qF 1 vZ.nd) (zo (jn (RW.rt (z45 (uH (wH (xX H__law_whole hr zW (aN (zb 1) zi)))) (jG (yD zcz (zb 1) zm)))) (zo (yc z1L)) yx))) (zo (yc (vA zcA (zS (z32 (by exact hc)) (by rfl) T.f11 z15 (aN (zb 0) zi) (he:=(zk ..))) zm))))))
theorem z1z (F:Fun K "_law_odd" "_law_odd" ur f fd) (hm:mg "_law_odd"=some (.ref f)) (H__law_take:Has P w K mg base CX0 "_law_take" 1 Pg.zg):Has P w K mg base CX0 "_law_odd" 2 Pg.xg:= (xf F hm (F.binds (ps:=["_law_pot_here"]) (by trivial)) jD rfl λcdv A outer s H E hr hc=> have hu:=hr.units;(zd (by refine yg (i:=1) (hN:=?_) (he:=?_) (hi:=?_) (hx:=?_) (hs:=?_) (hf:=?_);exact jD.nd;exact (xR (aK z8w (aK z1L (aK z1L (aU (zbs zm) (aK zm (aK zm (aB (zD z4S zm zm) (aK zB (aK zB (aT (jv zi) (aT (jv (aK zm (aK zm zi))) (aT (jv (aK zm zi)) (aL (xR (aK zm (aK zm zi))) (wG zb9 zi (by rfl))))))))))))))));rfl;(first | exact Or.inl rfl | exact Or.inr rfl);rfl;(first | exact .inl rfl | exact .inr rfl | assumption)) (zo (yc (z46 (zD xj (zb 1) (xR (aT (jv (aT (jv (aK zm (aK zm zi))) (aT (jv (aK zm (aK zm zi))) zi))) (aT (jv (aK z1L (aK zm zi))) zi)))) (xX H__law_take hr zW (aN (zb 0) (aK zm zi))))))))
theorem xo (F:Fun K "_law_same" "_law_same" wg f fd) (hm:mg "_law_same"=some (.ref f)) (H__law_whole:Has P w K mg base CX0 "_law_whole" 1 Pg.zZ) (k:Nat) (Hr:Has P w K mg base CX0 "_law_same" (k+1) (Pg.zV k)):Has P w K mg base CX0 "_law_same" (k+1+1) (Pg.zV (k+1)):= (xf F hm (F.binds (ps:=["_law_found","_law_due_here"]) (by trivial)) z21 rfl λcdv A outer s H E hr hc=> have hu:=hr.units;(zd (jn (wH (zbE (by decide) (by decide) z07 xm (by rfl) T.f8 (by rfl) T.f10 (by rfl) T.f15 (zb 1))) (zd (jn (RW.rt (z45 (yD (z8O hu) (z1d (by decide) z07 (by rfl) T.f8 (by rfl) T.f10 (zb 1)) (z1d (by decide) z07 (by rfl) T.f8 (by rfl) T.f10 (zb 0))) (jG (yD (z8O hu) (z1d (by decide) xm (by rfl) T.f8 (by rfl) T.f15 (zb 1)) (z1d (by decide) xm (by rfl) T.f8 (by rfl) T.f15 (zb 0)))))) (zo (yc z1L)) yx) (zo (yc (z2u (vA (z7y hu) (zS jx (by rfl) T.f9 wF (aN (zb 0) zi) (he:=(zk ..))) (zS jx (by rfl) T.f9 wF (aN (zb 1) zi) (he:=(zk ..)))) (z1o (zS (z7W (by exact hc)) (by rfl) T.f5 z4a (aO (vh ["_law_one","_law_other"] [none,none] (by exact hc) (zba (by rfl) T.f16 (aN (zb 0) (aN (zb 1) zi))) (λ_ _ _=>z6a 0 1 (by exact hc) zdu) (z5v 0 1 (by decide) (by rfl) (by rfl)) (λ_ _ _=>uj) (λ_ _ _=>(z5f Hr hr zW (by rfl) (aN (zb 0) (aN (zb 1) zi))))) zi) (he:=(wJ ..)))))))) yx) (zd (jn (RW.rt (z45 (yD zcK (zb 1) z8w) (z45 (wH (z1d (by decide) jQ (by rfl) T.f8 (by rfl) T.f6 (zb 1))) (jG (wH (z1d (by decide) z39 (by rfl) T.f8 (by rfl) T.f14 (zb 1))))))) (zo (yc (z2u (vA (z7y hu) (zb 0) (zb 1)) (z1o (vA (z7y hu) (z1d (by decide) jQ (by rfl) T.f8 (by rfl) T.f6 (zb 0)) (z1d (by decide) jQ (by rfl) T.f8 (by rfl) T.f6 (zb 1))))))) yx) (zo (yc (z2u (z5f H__law_whole (hr.mono (by omega)) zW (by rfl) (aN (zb 0) zi)) (z1o (vA (z7y hu) (zb 0) (zb 1)))))))))
theorem z0d(F:Fun K "_law_same" "_law_same" wg f fd)(hm:mg "_law_same"=some (.ref f))(H__law_whole:Has P w K mg base CX0 "_law_whole" 1 Pg.zZ):Has P w K mg base CX0 "_law_same" 5 Pg.zQ:= (xo T F hm H__law_whole 3 (xo T F hm H__law_whole 2 (xo T F hm H__law_whole 1 (xo T F hm H__law_whole 0 ((zar F hm (F.binds (ps:=["_law_found","_law_due_here"]) (by trivial))).mono (by decide))))))
theorem z3y (F:Fun K "is_lot" "is_lot" kc f fd) (hm:mg "is_lot"=some (.ref f)) (H_has_size:Has P w K mg base CX0 "has_size" 1 Pg.zR) (H_are_wholes:Has P w K mg base CX0 "are_wholes" 2 Pg.zP):Has P w K mg base CX0 "is_lot" 3 Pg.zx:= (xf F hm (F.binds (ps:=["thing"]) (by trivial)) z4m rfl λcdv A outer s H E hr hc=> have hu:=hr.units;(zd (jn (RW.rt (z45 (uH (wH (xX H_has_size hr zW (aN (zb 0) zi)))) (jG (uH (wH (xX H_are_wholes hr zW (aN (zb 0) (aQ (zS jx (by rfl) T.f9 wF (aN (zb 0) zi) (he:=(zk ..))) zi)))))))) (zo (yc z1L)) yx) (zo (yc (z2u (vA zaZ (zS (z9h (by exact hc)) (by rfl) T.f12 z7a (aN (zb 0) zi) (he:=(zk ..))) zm) (z1o (vA zcA (zS (z32 (by exact hc)) (by rfl) T.f11 z15 (aN (zb 0) zi) (he:=(zk ..))) zm)))))))
theorem z17 (F:Fun K "_law_due" "_law_due" uq f fd) (hm:mg "_law_due"=some (.ref f)) (H__law_is_lot:Has P w K mg base CX0 "_law_is_lot" 2 Pg.zE):Has P w K mg base CX0 "_law_due" 3 yn:= (xf F hm (F.binds (ps:=["_law_text"]) (by trivial)) ug rfl λcdv A outer s H E hr hc=> have hu:=hr.units;(zd (jn (uH (wH (z1d (by decide) z39 (by rfl) T.f8 (by rfl) T.f14 (zb 0)))) (zo (yc zB)) yx) (zd (yg 1 ug.nd (z6q zi)) (zd (z1C _ae hc (kB (z59 (z5W _aT _aU z0G jB (zb 0) zB))) (qF 2 ug.nd) (zd (jn (RW.rt (z45 (yD z5O (zb 2) zB) (jG (yD (z8O hu) (vh ["_law_sign"] [none] (by exact hc) (z7X (zb 2)) (λ_ _ _=>xZ (i:=0) zd8 (by rfl) (by first | exact Or.inl rfl | exact Or.inr rfl)) (wr 0 (by rfl)) (λ_ _ _=>z4f (yD z5J (zb 0) zB)) (λ_ _ _=>(zb 0))) (xR zi))))) (zo (yc zB)) yx) (zd (jn (RW.rt (w_and (yD z5O (z5g (zb 2) zm) zB) (z9O (yD z85 (zb 2) zB)))) (zo (yc zB)) yx) (zo (z5a (z3n (zb 1) (vB zaC (by rfl) T.f7 z3i (aN (zb 2) zi) (he:=(zk ..))))))))) (zo (yc (zcj (wH (xX H__law_is_lot hr zW (aQ (vB z0N (by rfl) T.f15 xm (aN (zb 1) zi) (he:=(zk ..))) zi) (he:=(xr ..)))) (vB z0N (by rfl) T.f15 xm (aN (zb 1) zi) (he:=(zk ..))) zB))))))).tidy
theorem uD (F:Fun K "_law_bent_text" "_law_bent_text" xk f fd) (hm:mg "_law_bent_text"=some (.ref f)) (H__law_take:Has P w K mg base CX0 "_law_take" 1 Pg.zg) (H__law_odd:Has P w K mg base CX0 "_law_odd" 2 Pg.xg):Has P w K mg base CX0 "_law_bent_text" 3 zG:= (xf F hm (F.binds (ps:=["_law_pot_here","_law_text"]) (by trivial)) zq rfl λcdv A outer s H E hr hc=>by
  have hu:=hr.units;refine zd ?_ ?_;·exact (yg 2 zq.nd zB)
  refine zd ?_ ?_;·exact (yg 2 zq.nd (zD vz (zb 2) zB))
  refine zd ?_ ?_
  ·refine yg _ ?_ ?_;·exact zq.nd
   refine z46 ?_ ?_
   ·refine xR ?_;refine aK ?_ ?_;·exact zB
    refine aK ?_ ?_;·exact zB
    refine aK ?_ ?_;·exact zB
    refine aS ?_ ?_;·exact (z5g (zb 2) (xX H__law_take hr zW (aN (zb 0) (aQ (zS z7d (by rfl) T.f9 wF (aN (zb 2) zi) (he:=(zk ..))) zi))))
    exact zi
   ·exact (xX H__law_take hr zW (aN (zb 0) (aK zm zi)))
  refine zd ?_ ?_;·exact (yg 4 zq.nd (xX H__law_take hr zW (aN (zb 0) (aB (zD xj (zS z7d (by rfl) T.f9 wF (aN (zb 1) zi) (he:=(zk ..))) zm) zi))))
  refine zd ?_ ?_;·exact (yg 5 zq.nd (z59 (z5W _aT _aU z0G jB (zb 1) zB)))
  refine zd ?_ ?_;·exact (yg 6 zq.nd (xX H__law_take hr zW (aN (zb 0) (aQ (zS jx (by rfl) T.f9 wF (aN (zb 5) zi) (he:=(zk ..))) zi))))
  refine zd ?_ ?_
  ·refine yg _ ?_ ?_;·exact zq.nd
   refine z46 ?_ ?_
   ·refine xR ?_;refine aK ?_ ?_;·exact zB
    refine aK ?_ ?_;·exact zB
    refine aK ?_ ?_;·exact zB
    refine aK ?_ ?_;·exact zB
    refine aK ?_ ?_;·exact zB
    refine aK ?_ ?_;·exact zB
    refine aK ?_ ?_;·exact zB
    refine aK ?_ ?_;·exact zB
    refine aK ?_ ?_;·exact zB
    refine aK ?_ ?_;·exact zB
    exact zi
   ·exact (xX H__law_take hr zW (aN (zb 0) (aK zm zi)))
  refine zd ?_ ?_;·exact (yg 8 zq.nd (xR (aB (zD vz (zD vz (z0s (zb 1) (vx (zb 4))) (zb 3)) (z02 (zb 1) (vx (zb 4)))) (aB (zD vz (z0s (zb 1) (vx (zb 4))) (z02 (zb 1) (vx (zD xj (zb 4) zm)))) (aB (zD vz (zD vz (z0s (zb 1) (vx (zb 4))) (zb 3)) (z02 (zb 1) (vx (zD xj (zb 4) zm)))) (aB (zD vz (zb 1) zB) zi))))))
  refine zd ?_ ?_;·exact (yg 8 zq.nd (zD xj (zb 8) (xR (aQ (z5W _an _ao jA uA zB (zD xj (zD xj (uW (zb 5) kK (vx (zb 6))) (xR (aN (zb 7) zi))) (uW (zb 5) (vx (zD xj (zb 6) zm)) kK))) (aQ (z5W _an _ao jA uA zB (zD xj (uW (zb 5) kK (vx (zb 6))) (uW (zb 5) (vx (zD xj (zb 6) zm)) kK))) zi)))))
  refine zd ?_ ?_;·exact (yg 8 zq.nd (zD xj (zb 8) (xR (aB (zD vz (zD vz (zb 1) zB) (zb 1)) (aB (zD vz zB (zb 1)) (aK zB (aQ (z5W _an _ao jA uA zB (vh ["_law_one"] [none] (by exact hc) (kB (zb 5)) (λ_ _ _=>xZ (i:=0) zd7 (by rfl) (by first | exact Or.inl rfl | exact Or.inr rfl)) (wr 0 (by rfl)) (λ_ _ _=>uj) (λ_ _ _=>zB))) (aQ (xX H__law_odd hr zW (aN (zb 0) zi)) zi))))))))
  refine zo ?_;exact (yc (z46 (zb 8) (xX H__law_take hr zW (aN (zb 0) (aK zm zi))))))
theorem z0o(F:Fun K "want_lot" "want_lot" uh f fd)(hm:mg "want_lot"=some (.ref f))(E_NoLot:z8L K mg "NoLot")(H_is_lot:Has P w K mg base CX0 "is_lot" 3 Pg.zx):Has P w K mg base (CX1 P w) "want_lot" 4 Pg.xh:= (z2b F hm (F.binds (ps:=["thing"]) (by trivial)) z26 rfl λcdv A outer s H E hr hc=> have hu:=hr.units;(zo (jn (uH (wH (xX H_is_lot hr z9K (aN (zb 0) zi)))) (zo (z49 E_NoLot z31 hc (by rfl))) yx)))
theorem z4L (F:Fun K "read" "read" z2m f fd) (hm:mg "read"=some (.ref f)) (E_NoText:z8L K mg "NoText") (H_are_figures:Has P w K mg base CX0 "are_figures" 1 yi) (H_number_in:Has P w K mg base CX0 "number_in" 1 yH) (H_is_lot:Has P w K mg base CX0 "is_lot" 3 Pg.zx):Has P w K mg base (CX1 P w) "read" 4 vK:= (z2b F hm (F.binds (ps:=["text"]) (by trivial)) z2E rfl λcdv A outer s H E hr hc=> have hu:=hr.units;(zd (z2Y (yg 1 z2E.nd (zcj (wH (z1d (by decide) z39 (by rfl) T.f8 (by rfl) T.f14 (zb 0))) (z59 (z5W _aT _aU z0G jB (zb 0) (z8T (by rfl) T.f0))) (xR zi)))) (zd (z2Y (yg 2 z2E.nd (vB z0N (by rfl) T.f15 xm (aO (vh ["word"] [none] (by exact hc) (kB (zb 1)) (λ_ _ _=>xZ (i:=0) zcQ (by rfl) (by first | exact Or.inl rfl | exact Or.inr rfl)) (wr 0 (by rfl)) (λ_ _ _=>z4f (wH (xX H_are_figures hr zW (aN (zb 0) zi)))) (λ_ _ _=>(xX H_number_in hr zW (aN (zb 0) zi)))) zi) (he:=(wJ ..))))) (zd (jn (RW.rt (z45 (yD (z8O hu) (zS jx (by rfl) T.f9 wF (aN (zb 2) zi) (he:=(zk ..))) (zS jx (by rfl) T.f9 wF (aN (zb 1) zi) (he:=(zk ..)))) (jG (uH (wH (xX H_is_lot hr z9K (aN (zb 2) zi))))))) (zo (z49 E_NoText z31 hc (by rfl))) yx) (zo (z2Y (yc (zb 2))))))))
theorem z1n(F:Fun K "written" "written" qc f fd)(hm:mg "written"=some (.ref f))(H_in_figures:Has P w K mg base CX0 "in_figures" 1 yz)(HX_want_lot:Has P w K mg base (CX1 P w) "want_lot" 4 Pg.xh):Has P w K mg base (CX1 P w) "written" 5 yV:= (z2b F hm (F.binds (ps:=["lot"]) (by trivial)) z3K rfl λcdv A outer s H E hr hc=> have hu:=hr.units;(zd (z5a (xX HX_want_lot hr zbR (aN (zb 0) zi))) (zo (z2Y (yc (z5W _an _ao jA uA (z8T (by rfl) T.f0) (vh ["number"] [none] (by exact hc) (kB (zb 0)) (λ_ _ _=>xZ (i:=0) zcH (by rfl) (by first | exact Or.inl rfl | exact Or.inr rfl)) (wr 0 (by rfl)) (λ_ _ _=>uj) (λ_ _ _=>(xX H_in_figures hr zW (aN (zb 0) zi))))))))))
theorem z0k (F:Fun K "_law_told" "_law_told" vD f fd) (hm:mg "_law_told"=some (.ref f)) (KS:∀c∈rsX,zaW K mg c "DrawError") (H__law_kind_of:zaX P w K mg base CX0 "_law_kind_of" 1 yo) (HX_read:Has P w K mg base (CX1 P w) "read" 4 vK) (HX_written:Has P w K mg base (CX1 P w) "written" 5 yV):Has P w K mg base CX0 "_law_told" 6 zA:= (xf F hm (F.binds (ps:=["_law_way","_law_thing"]) (by trivial)) qm rfl λcdv A outer s H E hr hc=> have hu:=hr.units;(zo (zbI rfl rfl rfl KS (by rfl) qm.nd (by rfl) (by rfl) (λpn xe E1 hp=>(zo (yc (z8I (n:=5) (z1G (Has.mono HX_read (by decide)) (z1G (Has.mono HX_written (by decide)) z5C)) (hr.mono (by decide)) hp (z46 (xR (wG (zas HX_read (by rfl)) (wG (zas HX_written (by rfl)) zi (zk ..)) (zk ..))) (zb 0)) (aN (zb 1) zi) (he:=(zk ..)))))) (λe pn=>(zo (yc (z8v H__law_kind_of (zbT (hr.h.mono (by decide))) zW (by rfl) (aN (zb 2) zi) (he:=(zk ..)))))))))
theorem z3u (F:Fun K "law" "law" kD f fd) (hm:mg "law"=some (.ref f)) (H__law_cell_at:Has P w K mg base CX0 "_law_cell_at" 1 Pg.ym) (H__law_pot:Has P w K mg base CX0 "_law_pot" 1 Pg.xK) (H__law_take:Has P w K mg base CX0 "_law_take" 1 Pg.zg) (H__law_lot:Has P w K mg base CX0 "_law_lot" 2 Pg.wL) (H__law_same:Has P w K mg base CX0 "_law_same" 5 Pg.zQ) (H__law_due:Has P w K mg base CX0 "_law_due" 3 yn) (H__law_bent_text:Has P w K mg base CX0 "_law_bent_text" 3 zG) (H__law_told:Has P w K mg base CX0 "_law_told" 6 zA):z0P P w K mg base CX0 7 f fd ["_law_script"] (z6Q ⟨mg,K⟩ z8f):= z9v F qu rfl λcdv A outer s H E hr hc=>by
  have hu:=hr.units;refine zd ?_ ?_
  ·refine z1C _ae hc (kB (xR (aK zB (aK zB (aK zB (aK zB (aK zB (aK zB (aK zB (aK zB zi)))))))))) (qF 1 qu.nd) ?_;refine zo ?_;refine jn (uH (wH (xX H__law_same hr zW (aQ (xX H__law_told hr zW (aK zm (aN (zb 1) zi))) (aQ (xX H__law_due hr zW (aN (zb 1) zi)) zi)) (he:=(xr ..))))) ?_ ?_
   ·refine zo ?_;exact (yc z1L)
   ·exact yx
  refine zd ?_ ?_
  ·refine z1C _ae hc (z2f (by rfl) T.f13 (aQ (zS (zaT (by exact hc)) (by rfl) T.f11 z15 (aK zm (aQ (zS (za7 (by exact hc)) (by rfl) T.f12 z7a (aQ (zS jx (by rfl) T.f9 wF (aN (zb 0) zi) (he:=(zk ..))) (aK zm zi)) (he:=(xr ..))) zi)) (he:=(kN ..))) zi)) (qF 2 qu.nd) ?_;refine zd ?_ ?_;·exact (yg 3 qu.nd (xX H__law_pot hr zW (aQ (xX H__law_cell_at hr zW (aN (zb 0) (aN (zb 2) zi))) zi) (he:=(xr ..))))
   refine zd ?_ ?_;·exact (yg 4 qu.nd (xX H__law_lot hr zW (aN (zb 3) zi)))
   refine zd ?_ ?_;·exact (yg 1 qu.nd (z5W _an _ao jA uA zB (vh ["_law_number"] [none] (by exact hc) (kB (zb 4)) (λ_ _ _=>xZ (i:=0) zdc (by rfl) (by first | exact Or.inl rfl | exact Or.inr rfl)) (wr 0 (by rfl)) (λ_ _ _=>uj) (λ_ _ _=>(vB z9i (by rfl) T.f14 z39 (aN (zb 0) zi) (he:=(zk ..)))))))
   refine zd ?_ ?_
   ·refine jn (RW.rt (z45 (uH (wH (xX H__law_same hr zW (aQ (xX H__law_told hr zW (aK zm (aN (zb 4) zi))) (aN (zb 1) zi)) (he:=(xr ..))))) (jG (uH (wH (xX H__law_same hr zW (aQ (xX H__law_told hr zW (aK zm (aN (zb 1) zi))) (aN (zb 4) zi)) (he:=(xr ..)))))))) ?_ ?_
    ·refine zo ?_;exact (yc z1L)
    ·exact yx
   refine zd ?_ ?_
   ·refine z1C _ae hc (kB (xR (aQ (xX H__law_bent_text hr zW (aN (zb 3) (aN (zb 1) zi))) (aQ (xX H__law_bent_text hr zW (aN (zb 3) (aN (zb 1) zi))) (aN (zb 1) zi))))) (qF 5 qu.nd) ?_;refine zo ?_;refine jn (uH (wH (xX H__law_same hr zW (aQ (xX H__law_told hr zW (aK zm (aN (zb 5) zi))) (aQ (xX H__law_due hr zW (aN (zb 5) zi)) zi)) (he:=(xr ..))))) ?_ ?_
    ·refine zo ?_;exact (yc z1L)
    ·exact yx
   refine zd ?_ ?_;·exact (yg 6 qu.nd (z46 (xR (aQ (vB z9k (by rfl) T.f10 z07 (aN (zb 4) zi) (he:=(zk ..))) (aT (jv zi) (aS (uW (zb 4) kK (vx zm)) (aT (jv (aK zm (aK zm zi))) (aK z8w (aN (zb 1) (aB (zD xj (jv (aK z1L zi)) (uW (zb 4) (vx zm) kK)) zi)))))))) (xX H__law_take hr zW (aN (zb 3) (aK zm zi)))))
   refine zo ?_;refine jn (yD z85 (xX H__law_told hr zW (aK zm (aN (zb 6) zi))) zB) ?_ ?_
   ·refine zo ?_;exact (yc z1L)
   ·exact yx
  refine zo ?_;exact (yc z1L)
end
open Pm Pn PySem.Builtin.Str PySem.NumText
abbrev FIG:Str:="0123456789"
abbrev cl(z:Str):List Nat:=z.cps.toList
theorem z0j{a b:Str}(h:cl a=cl b):a=b:=by
 obtain⟨⟨x⟩⟩:=a;obtain⟨⟨y⟩⟩:=b;simp only[cl]at h;subst h;rfl
theorem z2d:∀c,c<128->occurrences FIG ⟨#[c]⟩ 0 FIG.length 1=if 48<=c/\c<=57 then [c-48] else []:=by decide +kernel
def Asc(z:Str):Prop:=∀c∈cl z,c<128
theorem Asc.all{z:Str}(h:Asc z):z.cps.all (· < 128)=true:=by
 rw[_aV];intro c hc;exact _au (h c (by simpa[cl] using hc))
def dg(c:Nat):Bool:=decide (48<=c/\c<=57)
theorem z7k{cs:List Nat}:cs.all dg=true ↔ AllDigits cs:=by simp[dg,AllDigits]
def fg(w:Str):Bool:=!(cl w).isEmpty&&((cl w).all dg&&(decide (cl w=[48])||decide ((cl w).head? ≠ some 48)))
theorem zad{c:Nat}(h:c<128)(s:Sto):z34 false (.str ⟨#[c]⟩) (.str FIG) s=.ok (.bl (dg c)) s:=by
 simp only[z34,z2d c h];by_cases q:48<=c/\c<=57<;>simp[q,dg]
theorem z8t{c:Nat}(h:c<128)(s:Sto):z34 true (.str ⟨#[c]⟩) (.str FIG) s=.ok (.bl (!dg c)) s:=by
 simp only[z34,z2d c h];by_cases q:48<=c/\c<=57<;>simp[q,dg]
theorem z99{c:Nat}(h:c<128)(hd:dg c=true)(s:Sto):z3D FIG (.str ⟨#[c]⟩) s=.ok (.int ((c-48:Nat):Int)) s:=by
 have q:48<=c/\c<=57:=by simpa[dg] using hd
 simp[z3D,z2d c h,q]
theorem zb4{f:FE}{Z:Ev}{s:Sto}{z:Str}(h:f Z s=.ok (.str z) s)(ha:Asc z):jP f Z s=.ok ((cl z).map λc=>D.str ⟨#[c]⟩,[]) s:=by
 unfold jP;rw[h,Rb];simp only[ha.all,_H]
theorem nil_eq(w:Str):(cl w==cl "")=(cl w).isEmpty:=by
 have:cl ""=[]:=by decide +kernel
 rw[this];cases cl w<;>rfl
theorem z0z:cl "0"=[48]:=by decide +kernel
theorem ix0{w:Str}{c:Nat}{r:List Nat}(h:cl w=c::r)(hl:w.length<=1000)(s:Sto):z1w (.str w) (.int 0) s=.ok (.str ⟨#[c]⟩) s:=by
 have e:atI (cl w) 0=some c:=by simp[atI,h,ixN]
 simp only[z1w];rw[_f (by unfold cap;omega),e]
theorem z0l {w:Str} (ha:Asc w) (hl:w.length<=1000) (s:Sto):yi [.str w] s=.ok (.bl (fg w)) s:=by
 have st:zt ["word"] [.str w]=[some (.str w)]:=rfl;have c:=comp_map (fi:=jP (zc 0)) (mp:=[none]) (fg:=wa 0) (fe:=eOp (z34 false) (zc 0) (eC (.str "0123456789"))) (Z:=[some (.str w)]) (s:=s) (λc:Nat=>D.str ⟨#[c]⟩) (λc=>D.bl (dg c)) (λc=>[some (.str ⟨#[c]⟩)]) (cl w) (zb4 (vr rfl) ha) (λc _=>by simp) (λc hc=>by rw[op2 (x:=.str ⟨#[c]⟩) (y:=.str FIG) (vr rfl) rfl,zad (ha c hc)]) (by have:(cl w).length=w.length:=_ac;unfold cap;omega);have t1:tOf (eOp z3j (zc 0) (eC (.str ""))) [some (.str w)] s=.ok (cl w).isEmpty s:=xx (by rw[op2 (x:=.str w) (y:=.str "") (vr rfl) rfl];simp only[z3j];rw[<- nil_eq]);have t2:kg (tOf (zf z44 (za (yE (jP (zc 0)) [none] (wa 0) vR (eOp (z34 false) (zc 0) (eC (.str "0123456789")))) zj))) [some (.str w)] s=.ok (!(cl w).all dg) s:=by rw[kP,xx (by rw[yG c,z0c])];rfl
 simp only[yi,Mof,vY,st,_c,_g,_H];cases he:cl w with
 | nil=>
  have q1:zT [some (.str w)] s=.ok (.rt (.bl false)) s:=by rw[zT,vg,z0p,t1,he];rfl
  rw[uK q1];simp[fg,he] | cons x r=> cases hd:(cl w).all dg with
  | false=>
   have q1:zT [some (.str w)] s=.ok (.rt (.bl false)) s:=by rw[zT,vg,z0p,t1,he,Rb,_o (by simp),t2,hd];rfl
   rw[uK q1];simp[fg,hd] | true=>
   have q1:zT [some (.str w)] s=.ok (.nx [some (.str w)]) s:=by rw[zT,vg,z0p,t1,he,Rb,_o (by simp),t2,hd];rfl
   rw[zn q1];have i0:=ix0 he hl s;have a1:eOp z3j (zc 0) (eC (.str "0")) [some (.str w)] s=.ok (.bl (decide (cl w=[48]))) s:=by
    rw[op2 (x:=.str w) (y:=.str "0") (vr rfl) rfl];simp only[z3j];rw[show ("0":Str).cps.toList=[48] from z0z];congr 2;exact _aK.mpr (by simp)
   have a2:eOp z5s (eOp z1w (zc 0) (eC (.int 0))) (eC (.str "0")) [some (.str w)] s=.ok (.bl (decide ((cl w).head? ≠ some 48))) s:=by
    rw[op2 (x:=.str ⟨#[x]⟩) (y:=.str "0") (by rw[op2 (x:=.str w) (y:=.int 0) (vr rfl) rfl,i0]) rfl];simp only[z5s];rw[show ("0":Str).cps.toList=[48] from z0z,he];congr 2;by_cases q:x=48<;>simp[q]
   have q3:xW [some (.str w)] s=.ok (.rt (.bl (decide (cl w=[48])||decide ((cl w).head? ≠ some 48)))) s:=by
    rw[xW,ud,zbJ,a1,Rb];cases h48:decide (cl w=[48]) with
    | true=>rfl | false=>simp only;rw[a2];rfl
   have ff:fg w=(decide (cl w=[48])||decide ((cl w).head? ≠ some 48)):=by unfold fg;rw[hd,he];simp
   rw[q3,ff]
theorem z9q:∀(cs:List Nat),AllDigits cs->∀a n:Nat,a<10 ^ n->cs.foldl (λacc c=>acc*10+(c-48)) a<10 ^ (n+cs.length)
 | [],_,a,n,h=>by simpa using h | c::cs,hd,a,n,h=>by
  have hc:=hd c (by simp);have:=z9q cs (λx hx=>hd x (by simp[hx])) (a*10+(c-48)) (n+1) (by rw[_be];omega);rw[_ad,_c,show n+(cs.length+1)=n+1+cs.length by omega];exact this
theorem z91{cs:List Nat}(h:AllDigits cs)(hl:cs.length<=640):digitsVal cs<2 ^ 2200:=by
 have:=z9q cs h 0 0 (by decide);rw[_A]at this;exact _e this (_v (Nat.pow_le_pow_right (by decide) hl) (by decide +kernel))
theorem z2F {w:Str} (hd:AllDigits (cl w)) (hl:w.length<=640) (s:Sto):yH [.str w] s=.ok (.int (digitsVal (cl w):Nat)) s:=by
 have st:zt ["figures","number","sign"] [.str w]=[some (.str w),none,none]:=rfl;have ha:Asc w:=λc hc=>by have:=hd c hc;omega
 have ll:(cl w).length=w.length:=_ac;have lp:∃x,wV [some (.str w),some (.int 0),none] s=.ok (.nx [some (.str w),some (.int (digitsVal (cl w):Nat)),x]) s:=by
  obtain⟨Z',s',e,x,rfl,rfl⟩:=z0H (all:=(cl w).map λc=>D.str ⟨#[c]⟩) (body:=λd Z s=>(wa 2 d Z s).bind λZ' s'=>xE Z' s') (λj Z s'=>∃x,Z=[some (.str w),some (.int (digitsVal ((cl w).take j):Nat)),x]/\s'=s) ((cl w).map λc=>D.str ⟨#[c]⟩) 0 (λj d hj Z s' hI=>by
   obtain⟨x,rfl,rfl⟩:=hI;rw[_A]at *;rw[_S]at hj;obtain⟨c,hc,rfl⟩:=_x.mp hj;have hm:=_r hc;have tk:(cl w).take (j+1)=(cl w).take j++[c]:=by rw[List.take_succ,hc];rfl
   have big:digitsVal ((cl w).take j)<2 ^ 2200:=z91 (λx hx=>hd x (_Q hx)) (by rw[_aE];omega);refine⟨[some (.str w),some (.int (digitsVal ((cl w).take (j+1)):Nat)),some (.str ⟨#[c]⟩)],s',?_,_,rfl,rfl⟩;rw[jW,Rb];show xE [some (.str w),some (.int (digitsVal ((cl w).take j):Nat)),some (.str ⟨#[c]⟩)] s'=_;have ix:eSM z3D (eC (.str "0123456789")) (zc 2) [some (.str w),some (.int (digitsVal ((cl w).take j):Nat)),some (.str ⟨#[c]⟩)] s'=.ok (.int ((c-48:Nat):Int)) s':=by
    unfold eSM;rw[z22,Rb];simp only;rw[vr (d:=.str ⟨#[c]⟩) rfl,Rb];exact z99 (ha c hm) (by have:=hd c hm;simp[dg,this]) s'
   have mu:wx (.int 10) (.int (digitsVal ((cl w).take j):Nat)) s'=.ok (.int (10*(digitsVal ((cl w).take j):Nat))) s':=by rw[z6M,_f ⟨by decide +kernel,by
     rw[Int.natAbs_natCast];exact _e big (by decide +kernel)⟩]
   rw[xE,zY,op2 (x:=.int (10*(digitsVal ((cl w).take j):Nat))) (y:=.int ((c-48:Nat):Int)) (by rw[op2 (x:=.int 10) (y:=.int (digitsVal ((cl w).take j):Nat)) rfl (vr rfl),mu]) ix,z2X,Rb,tk,digitsVal_snoc];have:(10*((digitsVal ((cl w).take j):Nat):Int)+((c-48:Nat):Int))=((digitsVal ((cl w).take j)*10+(c-48):Nat):Int):=by omega
   rw[this];rfl) _ _ ⟨none,rfl,rfl⟩;refine⟨x,?_⟩;rw[wV,kf,zb4 (vr rfl) ha,Rb];rw[_A,_R,List.take_length]at e;exact e
 obtain⟨x,e⟩:=lp;simp only[yH,Mof,qB,st,_c,_g,_H];rw[zn (Z':=[some (.str w),some (.int 0),none]) (s':=s) (by rfl),zn e];rfl
theorem z13{w:Str}(h:fg w=true):AllDigits (cl w)/\cl w≠[]:=by
 simp only[fg,_q]at h;refine⟨z7k.mp h.2.1,λz=>?_⟩;rw[z]at h;simp at h
abbrev ws(t:Str):List Str:=xS t ":"
theorem z80{t:Str}(h:Asc t)(i j:Nat):Asc (strSub t i j):=λc hc=>by
 have e:=StrLaws.strSub_toList t i j;simp only[cl]at hc;rw[e]at hc;exact h c (_a3 (_Q hc))
theorem z6l{t:Str}(h:Asc t)(hl:t.length<=640):∀w∈ws t,Asc w/\w.length<=640:=λw hw=>by
 unfold ws xS at hw;split at hw;·simp at hw;subst hw;exact⟨h,hl⟩
 ·split at hw;·simp at hw;subst hw;exact⟨h,hl⟩
  ·simp only[partsBetween,_L]at hw;obtain⟨⟨i,j⟩,_,rfl⟩:=hw;exact⟨z80 h i j,_v (strSub_length_le ..) hl⟩
theorem z12{t:Str}(hl:t.length<=640):(ws t).length<=1000:=by
 unfold ws xS;split;·simp
 ·split;·simp
  ·have:=PySem.StrLaws.occ_length_le t ":" 0 t.length (t.length+1);simp[partsBetween];omega
def isL(v:List Int):Bool:=@decide (∃n,Lot n v) (Classical.propDecidable _)
theorem zam(v:List Int):Kd (rD v):=λx hx=>by obtain⟨i,_,rfl⟩:=_L.mp hx;rfl
theorem z8F(v:List Int)(s:Sto):zx [rD v] s=.ok (.bl (isL v)) s/\zE [rD v] s=.ok (.bl (isL v)) s:=by
 rcases z2W (zam v) s with⟨n,u,e,L,h1,h2⟩ | ⟨h1,h2⟩
 ·have e:iL v=iL u:=by injection e
  have e':=z2T e;subst e';have:isL v=true:=by unfold isL;exact @_au _ (Classical.propDecidable _) ⟨n,L⟩
  rw[this];exact⟨h1,h2⟩
 ·have:isL v=false:=by
   unfold isL;refine @_M _ (Classical.propDecidable _) λ⟨n,L⟩=>?_;have:=z0r L s;rw[h1]at this;cases this
  rw[this];exact⟨h1,h2⟩
def wR(t:Str):List Int:=(ws t).map λw=>((digitsVal (cl w):Nat):Int)
def z8l(t:Str):D:=if ((ws t).all fg&&isL (wR t))=true then rD (wR t) else .str "text"
structure Tx(t:Str):Prop where
 asc:Asc t
 len:t.length<=640
theorem z2w{f:FE}{Z:Ev}{s:Sto}{t:Str}(h:Tx t)(hf:f Z s=.ok (.str t) s):z2e (eSM vq f (eC (.str ":"))) Z s=.ok (.lst ((ws t).map D.str)) s:=by
 have l:=h.len;have g:vq t (.str ":") s=.ok (.loc s.length) (s++[(ws t).map D.str]):=by
  simp only[vq];rw[_f ⟨by decide +kernel,by unfold cap;omega,_v (z12 h.len) (by decide)⟩]
 have e:eSM vq f (eC (.str ":")) Z s=.ok (.loc s.length) (s++[(ws t).map D.str]):=by
  unfold eSM;rw[hf,Rb];simp only;rw[z22,Rb,g]
 rw[z7m,e,z6y]
theorem z6D {t:Str} (h:Tx t) (s:Sto) {a:Option D} {b:D}:xC [some b,some (.lst ((ws t).map D.str)),a] s=.ok (.nx [some b,some (.lst ((ws t).map D.str)),some (.tup (((ws t).filter fg).map λw=>D.int ((digitsVal (cl w):Nat):Int)))]) s:=by
 have c:=jj (fi:=xu (zc 1)) (mp:=[none]) (fg:=wa 0) (ft:=tOf (zf yi (za (zc 0) zj))) (fe:=zf yH (za (zc 0) zj)) (Z:=[some b,some (.lst ((ws t).map D.str)),a]) (s:=s) D.str (λw=>D.int ((digitsVal (cl w):Nat):Int)) fg (λw=>[some (.str w)]) (ws t) (jh (vr rfl)) (λw _=>by simp) (λw hw=>xx (by
   have q:=z6l h.asc h.len w hw;rw[yG (x:=.str w) (vr rfl),z0l q.1 (by have:=q.2;omega)])) (λw hw hf=>by
   have q:=z6l h.asc h.len w hw;rw[yG (x:=.str w) (vr rfl),z2F (z13 hf).1 q.2]) (by have:=z12 h.len;unfold cap;omega);rw[xC,zY,yG c,z52,Rb];rfl
theorem zaA {t:Str} (h:Tx t) (s:Sto):vK [.str t] s=if ((ws t).all fg&&isL (wR t))=true then .ok (rD (wR t)) s else .ex "NoText" s:=by
 have st:zt ["text","words","lot"] [.str t]=[some (.str t),none,none]:=rfl;have f1:xF [some (.str t),none,none] s=.ok (.nx [some (.str t),some (.lst ((ws t).map D.str)),none]) s:=by
  rw[xF,zY,z8r,xx (b:=true) (by rw[z6d,vr (d:=.str t) rfl,Rb];rfl),Rb,_f rfl,z2w h (vr rfl),Rb];rfl
 have f2:=z6D h s (a:=none) (b:=.str t);have wl:=z12 h.len;cases hf:(ws t).all fg with
 | true=>
  have fe:(ws t).filter fg=ws t:=List.filter_eq_self.mpr (_z.mp hf);rw[fe,show ((ws t).map λw=>D.int ((digitsVal (cl w):Nat):Int))=iL (wR t) by simp[wR,iL,_aB]]at f2;have lv:(wR t).length=(ws t).length:=by simp[wR]
  have t1:tOf (eOp dNe (zf wb (za (zc 2) zj)) (zf wb (za (zc 1) zj))) [some (.str t),some (.lst ((ws t).map D.str)),some (rD (wR t))] s=.ok false s:=xx (by rw[op2 (x:=.int ((ws t).length:Nat)) (y:=.int ((ws t).length:Nat)) (by rw[yG (x:=rD (wR t)) (vr rfl)];simp[wb,zU,lv]) (by rw[yG (x:=.lst ((ws t).map D.str)) (vr rfl)];simp[wb,zU]),z7D];simp);have t2:kg (tOf (zf Pg.zx (za (zc 2) zj))) [some (.str t),some (.lst ((ws t).map D.str)),some (rD (wR t))] s=.ok (!isL (wR t)) s:=by rw[kP,xx (by rw[yG (x:=rD (wR t)) (vr rfl),(z8F (wR t) s).1])];rfl
  cases hl:isL (wR t) with
  | true=>
   have f3:xb [some (.str t),some (.lst ((ws t).map D.str)),some (rD (wR t))] s=.ok (.nx [some (.str t),some (.lst ((ws t).map D.str)),some (rD (wR t))]) s:=by rw[xb,vg,z0p,t1,Rb,_o (by decide),t2,hl];rfl
   simp only[vK,z2z,uz,st,_c,_g,_H];rw[zn (show xH xF _ s=_ by rw[xH,f1]),zn (show xH xC _ s=_ by rw[xH,f2]),zn f3];rfl | false=>
   have f3:xb [some (.str t),some (.lst ((ws t).map D.str)),some (rD (wR t))] s=.ex "NoText" s:=by rw[xb,vg,z0p,t1,Rb,_o (by decide),t2,hl];rfl
   simp only[vK,z2z,uz,st,_c,_g,_H];rw[zn (show xH xF _ s=_ by rw[xH,f1]),zn (show xH xC _ s=_ by rw[xH,f2]),z0T,f3];rfl
 | false=>
  have lf:((ws t).filter fg).length≠(ws t).length:=λz=>by
   have:=List.length_filter_eq_length_iff.mp z;rw[_z.mpr this]at hf;cases hf
  have t1:tOf (eOp dNe (zf wb (za (zc 2) zj)) (zf wb (za (zc 1) zj))) [some (.str t),some (.lst ((ws t).map D.str)),some (.tup (((ws t).filter fg).map λw=>D.int ((digitsVal (cl w):Nat):Int)))] s=.ok true s:=xx (by
   rw[op2 (x:=.int (((ws t).filter fg).length:Nat)) (y:=.int ((ws t).length:Nat)) (by rw[yG (x:=.tup (((ws t).filter fg).map λw=>D.int ((digitsVal (cl w):Nat):Int))) (vr rfl)];simp[wb,zU]) (by rw[yG (x:=.lst ((ws t).map D.str)) (vr rfl)];simp[wb,zU]),z7D];have:¬ ((((ws t).filter fg).length:Int)=((ws t).length:Int)):=by omega
   simp[this]);have f3:xb [some (.str t),some (.lst ((ws t).map D.str)),some (.tup (((ws t).filter fg).map λw=>D.int ((digitsVal (cl w):Nat):Int)))] s=.ex "NoText" s:=by rw[xb,vg,z0p,t1,Rb,_f rfl];rfl
  simp only[vK,z2z,uz,st,_c,_g,_H];rw[zn (show xH xF _ s=_ by rw[xH,f1]),zn (show xH xC _ s=_ by rw[xH,f2]),z0T,f3];rfl
theorem z4i {d:D} (hd:(tyD d).isSome=true) (hs:∀z,d≠.str z) (s:Sto):vK [d] s=.ex "NoText" s:=by
 have st:zt ["text","words","lot"] [d]=[some d,none,none]:=rfl;have g:gIs "str" d s=.ok (.bl false) s:=by cases d<;>first | rfl | (simp[tyD]at hd;done) | exact absurd rfl (hs _)
 have f1:xF [some d,none,none] s=.ok (.nx [some d,some (.lst []),none]) s:=by
  rw[xF,zY,z8r,xx (b:=false) (by rw[z6d,vr (d:=d) rfl,Rb,g]),Rb,_o (by decide)];simp[cap]
 have f2:xC [some d,some (.lst []),none] s=.ok (.nx [some d,some (.lst []),some (.tup [])]) s:=by
  have c:=jj (fi:=xu (zc 1)) (mp:=[none]) (fg:=wa 0) (ft:=tOf (zf yi (za (zc 0) zj))) (fe:=zf yH (za (zc 0) zj)) (Z:=[some d,some (.lst []),none]) (s:=s) (λd:D=>d) (λd=>d) (λ_=>true) (λd=>[some d]) [] (jh (vr rfl)) (λw hw=>by cases hw) (λw hw=>by cases hw) (λw hw=>by cases hw) (by simp);rw[xC,zY,yG c,z52,Rb];rfl
 have nl:isL []=false:=by
  unfold isL;refine @_M _ (Classical.propDecidable _) λ⟨n,L⟩=>?_;have:=L.len;have:=L.sz;unfold Sz at this;simp at *;omega
 have f3:xb [some d,some (.lst []),some (.tup [])] s=.ex "NoText" s:=by
  have t1:tOf (eOp dNe (zf wb (za (zc 2) zj)) (zf wb (za (zc 1) zj))) [some d,some (.lst []),some (.tup [])] s=.ok false s:=xx (by rw[op2 (x:=.int 0) (y:=.int 0) (by rw[yG (x:=.tup []) (vr rfl)];rfl) (by rw[yG (x:=.lst []) (vr rfl)];rfl),z7D];simp);have t2:kg (tOf (zf Pg.zx (za (zc 2) zj))) [some d,some (.lst []),some (.tup [])] s=.ok true s:=by
   have:=(z8F [] s).1;rw[nl]at this;rw[kP,xx (by rw[yG (x:=.tup []) (vr rfl)];exact this)];rfl
  rw[xb,vg,z0p,t1,Rb,_o (by decide),t2,Rb,_f rfl];rfl
 simp only[vK,z2z,uz,st,_c,_g,_H];rw[zn (show xH xF _ s=_ by rw[xH,f1]),zn (show xH xC _ s=_ by rw[xH,f2]),z0T,f3];rfl
theorem z8Y{z:Str}(h:Asc z):PyData.strOk z=true:=by
 unfold PyData.strOk;rw[_aV];intro c hc;have:=h c (by simpa[cl] using hc);exact _au (by omega)
theorem z3p:∀{l:List Str},(∀w∈l,Asc w)->PyData.canLayAll0 (toPys (l.map D.str))=true/\PyData.depthAll (toPys (l.map D.str))=0
 | [],_=>by simp[toPys,PyData.canLayAll0,PyData.depthAll] | w::l,h=>by
  obtain⟨a,b⟩:=z3p (l:=l) λx hx=>h x (by simp[hx]);rw[_N,toPys,wc,PyData.canLayAll0,PyData.depthAll,PyData.canLay0,PyData.depth,a,b,z8Y (h w (by simp))];exact⟨rfl,rfl⟩
theorem z8n{l:List Str}(h:∀w∈l,Asc w)(s:Sto):dNe (.lst (l.map D.str)) (.lst []) s=.ok (.bl (!l.isEmpty)) s:=by
 obtain⟨a,b⟩:=z3p h;have p1:z51 (.lst (l.map D.str))=true:=by simp only[z51,SeqAt.shaped,wc,PyData.canLay0,PyData.depth,a,b];decide
 have p2:z51 (.lst [])=true:=by decide
 simp only[dNe,p1,p2,and_self,_H];cases l<;>simp[eqD,wc,toPys,PyData.eqv,PyData.eqvAll]
abbrev W3(t:D)(l:Nat)(w:Option D):Ev:=[some t,some (.loc l),w]
section
variable {t:D}{l:Nat}{w:Str}{s:Sto}
theorem zcR (ha:Asc w) (hl:w.length<=640):zL (W3 t l (some (.str w))) s=if ((cl w).isEmpty||!(cl w).all dg)=true then .ok (.rt (.str "text")) s else .ok (.nx (W3 t l (some (.str w)))) s:=by
 have ll:(cl w).length=w.length:=_ac;have c:=jj (fi:=jP (zc 2)) (mp:=[none]) (fg:=wa 0) (ft:=tOf (eOp (z34 true) (zc 0) (eC (.str "0123456789")))) (fe:=zc 0) (Z:=W3 t l (some (.str w))) (s:=s) (λc:Nat=>D.str ⟨#[c]⟩) (λc=>D.str ⟨#[c]⟩) (λc=>!dg c) (λc=>[some (.str ⟨#[c]⟩)]) (cl w) (zb4 (vr rfl) ha) (λc _=>by simp) (λc hc=>xx (by rw[op2 (x:=.str ⟨#[c]⟩) (y:=.str FIG) (vr rfl) rfl,z8t (ha c hc)])) (λc _ _=>vr rfl) (by unfold cap;omega);have e1:((cl w).filter λc=>!dg c).map (λc=>D.str ⟨#[c]⟩)=(((cl w).filter λc=>!dg c).map λc=>(⟨#[c]⟩:Str)).map D.str:=by simp[_aB]
 rw[e1]at c;have as1:∀z∈((cl w).filter λc=>!dg c).map λc=>(⟨#[c]⟩:Str),Asc z:=λz hz=>by
  obtain⟨c,hc,rfl⟩:=_L.mp hz;have:=ha c (List.mem_filter.mp hc).1;intro x hx;simp[cl]at hx;omega
 have t1:tOf (eOp z3j (zc 2) (eC (.str ""))) (W3 t l (some (.str w))) s=.ok (cl w).isEmpty s:=xx (by rw[op2 (x:=.str w) (y:=.str "") (vr rfl) rfl];simp only[z3j];rw[<- nil_eq]);have t2:tOf (eOp dNe (yE (jP (zc 2)) [none] (wa 0) (tOf (eOp (z34 true) (zc 0) (eC (.str "0123456789")))) (zc 0)) (vd zj)) (W3 t l (some (.str w))) s=.ok (!(cl w).all dg) s:=xx (by
  rw[op2 c (y:=.lst []) (by simp[cap]),z8n as1];congr 2;cases hx:(cl w).all dg with
  | true=>
   have:(cl w).filter (λc=>!dg c)=[]:=List.filter_eq_nil_iff.mpr λc hc=>by have:=_z.mp hx c hc;simp[this]
   simp[this] | false=>
   have:(cl w).filter (λc=>!dg c)≠[]:=λz=>by
    have:=List.filter_eq_nil_iff.mp z;have:(cl w).all dg=true:=_z.mpr λc hc=>by have:=this c hc;simpa using this
    rw[hx]at this;cases this
   cases hh:(cl w).filter (λc=>!dg c) with
   | nil=>exact absurd hh this | cons=>simp);rw[zL,vg,z0p,t1,Rb];cases (cl w).isEmpty with
 | true=>rfl | false=>
  rw[_o (by decide),t2,Rb];cases (cl w).all dg<;>rfl
theorem zdl (hl:w.length<=640) {c:Nat} {r:List Nat} (hw:cl w=c::r):zH (W3 t l (some (.str w))) s=if c=48/\r≠[] then .ok (.rt (.str "text")) s else .ok (.nx (W3 t l (some (.str w)))) s:=by
 have i0:=ix0 hw (by omega) s;have t1:tOf (eOp z3j (eOp z1w (zc 2) (eC (.int 0))) (eC (.str "0"))) (W3 t l (some (.str w))) s=.ok (decide (c=48)) s:=xx (by
  rw[op2 (x:=.str ⟨#[c]⟩) (y:=.str "0") (by rw[op2 (x:=.str w) (y:=.int 0) (vr rfl) rfl,i0]) rfl];simp only[z3j];rw[show ("0":Str).cps.toList=[48] from z0z];congr 2;by_cases q:c=48<;>simp[q]);have t2:tOf (eOp z5s (zc 2) (eC (.str "0"))) (W3 t l (some (.str w))) s=.ok (decide (cl w≠[48])) s:=xx (by
  rw[op2 (x:=.str w) (y:=.str "0") (vr rfl) rfl];simp only[z5s];rw[show ("0":Str).cps.toList=[48] from z0z];congr 2;exact _aK.mpr (by simp));rw[zH,vg,zaQ,t1,Rb];by_cases q:c=48
 ·rw[_f (by simp[q]),t2,Rb];by_cases q2:r=[]
  ·have:¬ (cl w≠[48]):=by rw[hw,q,q2];simp
   rw[_o (by simpa using this),_o (by simp[q2])];rfl
  ·have:cl w≠[48]:=by rw[hw];simp[q2]
   rw[_f (by simpa using this),_f ⟨q,q2⟩];rfl
 ·rw[_o (by simp[q]),Rb,_o (by decide),_o (by simp[q])];rfl
theorem zcX (h:fg w=true) (hl:w.length<=640) {acc:List Int} (ha:acc.length<1000):zK (W3 t s.length (some (.str w))) (s++[iL acc])=.ok (.nx (W3 t s.length (some (.str w)))) (s++[iL (acc++[((digitsVal (cl w):Nat):Int)])]):=by
 have fd:=z13 h;have ii:z3w [.str w] (s++[iL acc])=.ok (.int ((digitsVal (cl w):Nat):Int)) (s++[iL acc]):=by
  simp only[z3w,intText_digits fd.1 fd.2 (by omega)];rw[_f hl]
 have:=z7f (fa:=zc 1) (fb:=zf z3w (za (zc 2) zj)) (Z:=W3 t s.length (some (.str w))) (s:=s++[iL acc]) (s2:=s++[iL acc]) (L:=s.length) (xs:=acc) (x:=((digitsVal (cl w):Nat):Int)) (vr rfl) (by rw[yG (x:=.str w) (vr rfl),ii]) (by simp) ha;rw[zK,this];simp
theorem z8C (ha:Asc w) (hl:w.length<=640) {acc:List Int} (hacc:acc.length<1000):(zM zL (zM zH zK)) (W3 t s.length (some (.str w))) (s++[iL acc])=if fg w=true then .ok (.nx (W3 t s.length (some (.str w)))) (s++[iL (acc++[((digitsVal (cl w):Nat):Int)])]) else .ok (.rt (.str "text")) (s++[iL acc]):=by
 have f5:=zcR (t:=t) (l:=s.length) (s:=s++[iL acc]) ha hl;cases hw:cl w with
 | nil=>
  rw[hw]at f5;have:fg w=false:=by simp[fg,hw]
  rw[uK f5,this];rfl | cons c r=>
  have f7:=zdl (t:=t) (l:=s.length) (s:=s++[iL acc]) hl hw;cases hd:(cl w).all dg with
  | false=>
   rw[hd,hw]at f5;have:fg w=false:=by simp[fg,hd]
   rw[uK f5,this];rfl | true=>
   rw[hd,hw]at f5;have ff:fg w=!decide (c=48/\r≠[]):=by
    unfold fg;rw[hd,hw];by_cases q:c=48<;>by_cases q2:r=[]<;>simp[q,q2]
   rw[zn f5];by_cases q:c=48/\r≠[]
   ·rw[_f q]at f7;rw[uK f7,ff];simp[q]
   ·rw[_o q]at f7;have ft:fg w=true:=by rw[ff];simp[q]
    rw[zn f7,zcX ft hl hacc,_f ft,hw]
theorem z33 {all:List D}:∀(l:List Str) (acc:List Int) (x:Option D),(∀w∈l,Asc w/\w.length<=640)->acc.length+l.length<=900-> (l.all fg=true->∃x',yJ [] all (λd Z s=>(wa 2 d Z s).bind λZ' s'=>(zM zL (zM zH zK)) Z' s') (l.map D.str) (W3 t s.length x) (s++[iL acc])=.ok (.nx (W3 t s.length x')) (s++[iL (acc++l.map λw=>((digitsVal (cl w):Nat):Int))]))/\ (l.all fg=false->∃acc':List Int,yJ [] all (λd Z s=>(wa 2 d Z s).bind λZ' s'=>(zM zL (zM zH zK)) Z' s') (l.map D.str) (W3 t s.length x) (s++[iL acc])=.ok (.rt (.str "text")) (s++[iL acc']))
 | [],acc,x,_,_=>by
  refine⟨λ_=>⟨x,?_⟩,λh=>by simp at h⟩;simp[yJ,okG] | w::l,acc,x,h,hl=>by
  obtain⟨ha,hw⟩:=h w (by simp);have og:okG [] all (s++[iL acc]):=by intro p hp;simp at hp
  have st:=z8C (t:=t) (s:=s) (acc:=acc) ha hw (by simp at hl;omega);obtain⟨i1,i2⟩:=z33 (all:=all) l (acc++[((digitsVal (cl w):Nat):Int)]) (some (.str w)) (λz hz=>h z (by simp[hz])) (by simp at hl ⊢;omega);have step:∀r,(zM zL (zM zH zK)) (W3 t s.length (some (.str w))) (s++[iL acc])=r->yJ [] all (λd Z s=>(wa 2 d Z s).bind λZ' s'=>(zM zL (zM zH zK)) Z' s') ((w::l).map D.str) (W3 t s.length x) (s++[iL acc])=r.bind λfl s1=>match fl with
   | .nx Z'=>yJ [] all (λd Z s=>(wa 2 d Z s).bind λZ' s'=>(zM zL (zM zH zK)) Z' s') (l.map D.str) Z' s1 | .ct Z'=>yJ [] all (λd Z s=>(wa 2 d Z s).bind λZ' s'=>(zM zL (zM zH zK)) Z' s') (l.map D.str) Z' s1 | .bk Z'=>.ok (.nx Z') s1 | .rt d=>.ok (.rt d) s1:=λr hr=>by
   rw[_N,yJ,_f og,jW,Rb,<- hr];rfl
  have st':=step _ st;cases hf:fg w with
  | true=>
   rw[hf,_f rfl,Rb]at st';simp only at st';refine⟨λq=>?_,λq=>?_⟩
   ·obtain⟨x',e⟩:=i1 (by simpa[hf] using q);refine⟨x',?_⟩;rw[st',e];simp
   ·obtain⟨acc',e⟩:=i2 (by simpa[hf] using q);exact⟨acc',by rw[st',e]⟩ | false=>
   rw[hf,_o (by decide),Rb]at st';simp only at st';exact⟨λq=>by simp[hf]at q,λ_=>⟨acc,st'⟩⟩
end
theorem z8K{t:Str}(hl:t.length<=640):(ws t).length<=700:=by
 unfold ws xS;split;·simp
 ·split;·simp
  ·have:=PySem.StrLaws.occ_length_le t ":" 0 t.length (t.length+1);simp[partsBetween];omega
theorem zao {t:Str} (h:Tx t) (s:Sto):yn [.str t] s=.ok (z8l t) s:=by
 have st:zt ["_law_text","_law_found","_law_word"] [.str t]=[some (.str t),none,none]:=rfl;have f1:xw [some (.str t),none,none] s=.ok (.nx [some (.str t),none,none]) s:=by rw[xw,vg,kP,xx (b:=true) (by rw[z6d,vr (d:=.str t) rfl,Rb];rfl)];rfl
 have f3:vC [some (.str t),none,none] s=.ok (.nx (W3 (.str t) s.length none)) (s++[iL []]):=by
  rw[vC,zY];simp[cap,D.flat.flats]
 obtain⟨l1,l2⟩:=z33 (t:=.str t) (s:=s) (all:=(ws t).map D.str) (ws t) [] none (z6l h.asc h.len) (by have:=z8K h.len;simpa using (by omega:(ws t).length<=900));have f4:vF (W3 (.str t) s.length none) (s++[iL []])=yJ [] ((ws t).map D.str) (λd Z s=>(wa 2 d Z s).bind λZ' s'=>(zM zL (zM zH zK)) Z' s') ((ws t).map D.str) (W3 (.str t) s.length none) (s++[iL []]):=by rw[vF,kf,jh (z2w h (vr rfl)),Rb]
 rw[yn,z2i];simp only[Mof,ui,st,_c,_g,_H];rw[zn f1,zn f3];unfold z8l;cases hf:(ws t).all fg with
 | false=>
  obtain⟨acc',e⟩:=l2 hf;rw[uK (f4.trans e)];simp only[Bool.false_and,Bool.false_eq_true,if_false];rw[wK rfl];simp | true=>
  obtain⟨x',e⟩:=l1 hf;rw[zn (f4.trans e),List.nil_append];have gt:∀Z':Ev,Z'[1]? = some (some (.loc s.length))->zf uc (za (zc 1) zj) Z' (s++[iL (wR t)])=.ok (rD (wR t)) (s++[iL (wR t)]):=λZ' hZ=>by
   rw[yG (vr hZ)];simp[uc,zU]
  have f10:va (W3 (.str t) s.length x') (s++[iL (wR t)])=.ok (.rt (if isL (wR t)=true then rD (wR t) else .str "text")) (s++[iL (wR t)]):=by
   rw[va,ud,z8r,xx (b:=isL (wR t)) (by rw[yG (gt _ rfl)];exact (z8F (wR t) _).2),Rb];cases isL (wR t) with
   | true=>rw[_f rfl,gt _ rfl];rfl | false=>rfl
  rw[show (s++[iL ((ws t).map λw=>((digitsVal (cl w):Nat):Int))])=s++[iL (wR t)] from rfl,f10];simp only[Bool.true_and];cases isL (wR t) with
  | true=>
   simp only[_H];rw[wK (show (rD (wR t)).flat=true from qe (wR t))];simp | false=>
   simp only[Bool.false_eq_true,if_false];rw[wK rfl];simp
theorem z69{d:D}(hd:(tyD d).isSome=true)(hs:∀z,d≠.str z)(s:Sto):yn [d] s=.ok (.str "text") s:=by
 have st:zt ["_law_text","_law_found","_law_word"] [d]=[some d,none,none]:=rfl;have g:gIs "str" d s=.ok (.bl false) s:=by cases d<;>first | rfl | (simp[tyD]at hd;done) | exact absurd rfl (hs _)
 have f1:xw [some d,none,none] s=.ok (.rt (.str "text")) s:=by rw[xw,vg,kP,xx (b:=false) (by rw[z6d,vr (d:=d) rfl,Rb,g])];rfl
 rw[yn,z2i];simp only[Mof,ui,st,_c,_g,_H];rw[uK f1];simp only;rw[wK rfl];simp
theorem z28:∀(cs:List Nat)(a:Nat),cs.foldl (λacc c=>acc*10+(c-48)) a=a*10 ^ cs.length+digitsVal cs
 | [],a=>by simp[digitsVal] | c::cs,a=>by
  have h1:=z28 cs (a*10+(c-48));have h2:=z28 cs (0*10+(c-48));have e:digitsVal (c::cs)=cs.foldl (λacc c=>acc*10+(c-48)) (0*10+(c-48)):=rfl;rw[Nat.zero_mul,_A]at h2 e;rw[_ad,h1,e,h2,_c,_be];generalize 10 ^ cs.length=p;rw[Nat.add_mul,Nat.mul_comm p 10,<- Nat.mul_assoc];omega
theorem z2v(c:Nat)(cs:List Nat):digitsVal (c::cs)=(c-48)*10 ^ cs.length+digitsVal cs:=by
 have h2:=z28 cs (0*10+(c-48));have e:digitsVal (c::cs)=cs.foldl (λacc c=>acc*10+(c-48)) (0*10+(c-48)):=rfl;rw[e,h2];simp
structure Can(cs:List Nat):Prop where
 dg:AllDigits cs
 ne:cs≠[]
 hd:cs.length=1\/∃c r,cs=c::r/\49<=c
theorem Can.text{cs:List Nat}(h:Can cs):cl (Str.ofString (toString (digitsVal cs:Int)))=cs:=by
 have l1:0<cs.length:=_bb.mpr h.ne;have e:=toDigits_digitsVal (cs.length-1) cs (by omega) h.dg (h.hd.imp (λq=>by omega) id);have e1:cl (Str.ofString (toString (digitsVal cs:Int)))=(Nat.repr (digitsVal cs)).toList.map Char.toNat:=signs_ofString _;rw[e1,Nat.toList_repr,e,_bN];conv=>rhs;rw[<- List.map_id cs]
 refine _bc λc hc=>?_;have:=h.dg c hc;have key:∀c,c<58->48<=c->(Char.toNat ∘ Char.ofNat) c=id c:=by decide
 exact key c (by omega) this.1
theorem Can.fg{w:Str}(h:Can (cl w)):fg w=true:=by
 unfold K04.fg;rw[z7k.mpr h.dg];cases hw:cl w with
 | nil=>exact absurd hw h.ne | cons c r=>
  rcases h.hd with q | ⟨c',r',e,q⟩
  ·rw[hw]at q;have:r=[]:=List.eq_nil_of_length_eq_zero (by simpa using q);subst this;by_cases z:c=48<;>simp[z]
  ·rw[hw]at e;cases e;have:c≠48:=by omega
   simp[this]
theorem Can.len{cs:List Nat}(h:Can cs){k:Nat}(hk:1<=k)(hv:digitsVal cs<10 ^ k):cs.length<=k:=by
 rcases h.hd with q | ⟨c,r,e,q⟩;·omega
 ·subst e;rw[z2v]at hv;have h1:10 ^ r.length<=(c-48)*10 ^ r.length:=Nat.le_mul_of_pos_left _ (by omega);have h2:10 ^ r.length<10 ^ k:=by omega
  have:=(Nat.pow_lt_pow_iff_right (by decide:1<10)).mp h2;simp;omega
theorem z9Y {d:Nat} (h:d<10) (s:Sto):z1w (.str "0123456789") (.int (d:Int)) s=.ok (.str ⟨#[48+d]⟩) s:=by
 have key:∀d:Nat,d<10->atI (cl FIG) (d:Int)=some (48+d):=by decide +kernel
 simp only[z1w];rw[_f (by decide +kernel),show FIG.cps.toList=cl FIG from rfl,key d h]
theorem z1B {n:Nat} (hn:n<2 ^ 2000) (s:Sto):∃w:Str,yz [.int (n:Int)] s=.ok (.str w) s/\Can (cl w)/\digitsVal (cl w)=n:=by
 have st:zt ["number","figures"] [.int (n:Int)]=[some (.int (n:Int)),none]:=rfl;have fig:∀(m:Nat) (Z:Ev),Z[0]? = some (some (.int (m:Int)))->eOp z1w (eC (.str "0123456789")) (eOp z3c (zc 0) (eC (.int 10))) Z s=.ok (.str ⟨#[48+m % 10]⟩) s:=λm Z h=>by
  have e:((m:Int) % 10)=((m % 10:Nat):Int):=by omega
  rw[op2 (x:=.str "0123456789") (y:=.int ((m % 10:Nat):Int)) rfl (by rw[op2 (x:=.int (m:Int)) (y:=.int 10) (vr h) rfl,z6L,_f (by decide),e]),z9Y (Nat.mod_lt _ (by decide))]
 have loop:∀(k m:Nat) (f:Str),m<10 ^ (k+1)->m<=n->f.length+k<=700->AllDigits (cl f)->(∃r,cl f=(48+m % 10)::r/\(r=[]\/1<=m))->(m / 10)*10 ^ (cl f).length+digitsVal (cl f)=n-> ∃(w:Str) (x:D),ww (tOf (eOp dGe (zc 0) (eC (.int 10)))) (zM xp xq) (k+1) [some (.int (m:Int)),some (.str f)] s=.ok (.nx [some x,some (.str w)]) s/\Can (cl w)/\digitsVal (cl w)=n:=by
  intro k;induction k with
  | zero=>
   intro m f hm hmn hl hd ⟨r,hr,hr2⟩ hv;have t:tOf (eOp dGe (zc 0) (eC (.int 10))) [some (.int (m:Int)),some (.str f)] s=.ok false s:=xx (by
    rw[op2 (x:=.int (m:Int)) (y:=.int 10) (vr rfl) rfl,z5T];have:¬ (10:Int)<=(m:Int):=by omega
    simp[this]);refine⟨f,.int (m:Int),by rw[ww,t];rfl,⟨hd,by rw[hr];simp,?_⟩,?_⟩
   ·rw[hr];rcases hr2 with rfl | q;·exact .inl rfl
    ·exact .inr ⟨_,r,rfl,by omega⟩
   ·have:m / 10=0:=by omega
    rw[this]at hv;simpa using hv | succ k ih=>
   intro m f hm hmn hl hd ⟨r,hr,hr2⟩ hv;by_cases h10:10<=m
   ·have t:tOf (eOp dGe (zc 0) (eC (.int 10))) [some (.int (m:Int)),some (.str f)] s=.ok true s:=xx (by
     rw[op2 (x:=.int (m:Int)) (y:=.int 10) (vr rfl) rfl,z5T];have:(10:Int)<=(m:Int):=by omega
     simp[this]);have e:((m:Int) / 10)=((m / 10:Nat):Int):=by omega
    have f3:xp [some (.int (m:Int)),some (.str f)] s=.ok (.nx [some (.int ((m / 10:Nat):Int)),some (.str f)]) s:=by
     rw[xp,zY,op2 (x:=.int (m:Int)) (y:=.int 10) (vr rfl) rfl,z4F s (by decide) (by decide +kernel),e,Rb];rfl
    have f4:xq [some (.int ((m / 10:Nat):Int)),some (.str f)] s=.ok (.nx [some (.int ((m / 10:Nat):Int)),some (.str ((⟨#[48+m / 10 % 10]⟩:Str)++f))]) s:=by
     rw[xq,zY,op2 (fig (m / 10) _ rfl) (vr (d:=.str f) rfl)];simp only[yK];rw[_f (by have:(⟨#[48+m / 10 % 10]⟩:Str).length=1:=rfl;unfold cap;omega),Rb];rfl
    have cf:cl ((⟨#[48+m / 10 % 10]⟩:Str)++f)=(48+m / 10 % 10)::cl f:=by simp[cl,PySem.Str.cps_append]
    obtain⟨w,x,e2,r1,r2⟩:=ih (m / 10) ((⟨#[48+m / 10 % 10]⟩:Str)++f) (by rw[_be]at hm;omega) (by omega) (by
     have:((⟨#[48+m / 10 % 10]⟩:Str)++f).length=1+f.length:=PySem.Str.length_append _ _;omega) (by
     rw[cf];intro c hc;rcases _l.mp hc with rfl | hc;·omega
     ·exact hd c hc) ⟨cl f,cf,.inr (by omega)⟩ (by
     rw[cf,_c,z2v,_be];have e3:48+m / 10 % 10-48=m / 10 % 10:=by omega
     rw[e3,<- hv];generalize 10 ^ (cl f).length=p;have e4:m / 10=m / 10 / 10*10+m / 10 % 10:=by omega
     have e5:m / 10*p=(m / 10 / 10*10+m / 10 % 10)*p:=by rw[<- e4]
     rw[e5,Nat.add_mul,Nat.mul_comm p 10,<- Nat.mul_assoc];omega);refine⟨w,x,?_,r1,r2⟩;rw[ww,t,Rb,_f rfl,zn f3,f4];exact e2
   ·have t:tOf (eOp dGe (zc 0) (eC (.int 10))) [some (.int (m:Int)),some (.str f)] s=.ok false s:=xx (by
     rw[op2 (x:=.int (m:Int)) (y:=.int 10) (vr rfl) rfl,z5T];have:¬ (10:Int)<=(m:Int):=by omega
     simp[this]);refine⟨f,.int (m:Int),by rw[ww,t];rfl,⟨hd,by rw[hr];simp,?_⟩,?_⟩
    ·rw[hr];rcases hr2 with rfl | q;·exact .inl rfl
     ·exact .inr ⟨_,r,rfl,by omega⟩
    ·have:m / 10=0:=by omega
     rw[this]at hv;simpa using hv
 obtain⟨w,x,e,r1,r2⟩:=loop 650 n ⟨#[48+n % 10]⟩ (_e hn (by decide +kernel)) (_i _) (by show 1+650<=700;decide) (by intro c hc;simp[cl]at hc;omega) ⟨[],rfl,.inl rfl⟩ (by
  show n / 10*10 ^ 1+digitsVal [48+n % 10]=n;rw[z2v];simp[digitsVal];omega);refine⟨w,?_,r1,r2⟩;simp only[yz,Mof,uJ,st,_c,_g,_H];rw[zn (Z':=[some (.int (n:Int)),some (.str ⟨#[48+n % 10]⟩)]) (s':=s) (by rw[ub,zY,fig n _ rfl];rfl),zn (by rw[ue];exact z6k e (by simp))];rfl
theorem z6O:cl ":"=[58]:=by decide +kernel
theorem col_eq:(":":Str)=⟨#[58]⟩:=z0j (by rw[z6O])
theorem z4y(a b:Str):cl (a++b)=cl a++cl b:=by simp[cl,PySem.Str.cps_append]
theorem za2:∀{x y A B:List Nat},58∉x->58∉y->x++58::A=y++58::B->x=y/\A=B
 | [],[],A,B,_,_,h=>by simpa using h | [],b::y,A,B,_,hy,h=>by simp at h;exact absurd h.1 (by simp at hy;exact hy.1) | a::x,[],A,B,hx,_,h=>by simp at h;exact absurd h.1.symm (by simp at hx;exact hx.1) | a::x,b::y,A,B,hx,hy,h=>by
  simp only[_bA,List.cons.injEq]at h;simp only[_l,not_or]at hx hy;obtain⟨e1,e2⟩:=za2 hx.2 hy.2 h.2;exact⟨by rw[h.1,e1],e2⟩
theorem z3N(x y:Str)(r:List Str):cl (Str.join ":" (x::y::r))=cl x++58::cl (Str.join ":" (y::r)):=by
 show cl (x++":"++Str.join ":" (y::r))=_;rw[z4y,z4y,z6O];simp
def Fr(l:List Str):Prop:=∀w∈l,58∉cl w
theorem z2S:∀{a b:List Str},a≠[]->b≠[]->Fr a->Fr b->Str.join ":" a=Str.join ":" b->a=b
 | [],_,h,_,_,_,_=>absurd rfl h | _,[],_,h,_,_,_=>absurd rfl h | [x],[y],_,_,_,_,h=>by rw[show x=y from h] | [x],y::z::r,_,_,fa,_,h=>by
  have e:=z3N y z r;rw[<- h]at e;exact absurd (by rw[show Str.join ":" [x]=x from rfl]at e;rw[e];simp) (fa x (by simp)) | x::z::r,[y],_,_,_,fb,h=>by
  have e:=z3N x z r;rw[h]at e;exact absurd (by rw[show Str.join ":" [y]=y from rfl]at e;rw[e];simp) (fb y (by simp)) | x::z::r,y::u::q,_,_,fa,fb,h=>by
  have e:=z3N x z r;rw[h,z3N y u q]at e;obtain⟨e1,e2⟩:=za2 (fb y (by simp)) (fa x (by simp)) e;rw[z0j e1,z2S (a:=z::r) (b:=u::q) (by simp) (by simp) (λw hw=>fa w (by simp only[_l]at hw ⊢;exact .inr hw)) (λw hw=>fb w (by simp only[_l]at hw ⊢;exact .inr hw)) (z0j e2).symm]
theorem ve(sep:Str)(l:List Str):wC sep l=Str.join sep l:=by
 unfold wC;split;·rfl
 ·exact StrLaws.glued_eq_join _ _
theorem z6z(t:Str):ws t=Txt.split t ":":=rfl
theorem z7V{l:List Str}(hn:l≠[])(hf:Fr l):ws (wC ":" l)=l:=by
 refine z2S ?_ hn ?_ hf ?_
 ·have:=split_pos (wC ":" l) ":";rw[z6z];intro z;rw[z]at this;simp at this
 ·intro w hw;rw[z6z,col_eq]at hw;exact StrLaws.split_free _ 58 w hw
 ·rw[z6z,StrLaws.join_split,ve]
def wt(l:List Str):Nat:=(l.map λw=>w.length+1).sum
theorem z9c:wt []=0:=rfl
theorem wZ(w:Str)(l:List Str):wt (w::l)=w.length+1+wt l:=by simp[wt]
theorem jo(a b:List Str):wt (a++b)=wt a+wt b:=by simp[wt]
theorem len_app(a b:Str):(a++b).length=a.length+b.length:=PySem.Str.length_append _ _
theorem kQ(a:Str):(cl a).length=a.length:=_ac
theorem vV:∀l:List Str,(Str.join ":" l).length<=wt l
 | []=>by rw[<- kQ];show ([]:List Nat).length<=_;simp | [x]=>by rw[wZ];show x.length<=_;omega | x::y::r=>by
  have:=vV (y::r);have e:=_aC List.length (z3N x y r);rw[_aj,_c,kQ,kQ,kQ]at e;rw[wZ];omega
theorem uB:∀{l:List Str},(∀w∈l,Asc w)->Asc (Str.join ":" l)
 | [],_=>λc hc=>by
  have:cl (Str.join ":" [])=[]:=rfl;rw[this]at hc;simp at hc | [x],h=>h x (by simp) | x::y::r,h=>λc hc=>by
  rw[z3N]at hc;rcases _F.mp hc with hc | hc;·exact h x (by simp) c hc
  ·rcases _l.mp hc with rfl | hc;·decide
   ·exact uB (l:=y::r) (λw hw=>h w (by simp only[_l]at hw ⊢;exact .inr hw)) c hc
theorem z4v:∀(l:List Str)(a:Nat),l.foldl (λx w=>x+w.length+1) a=a+wt l
 | [],a=>by simp[wt] | w::l,a=>by rw[_ad,z4v l,wZ];omega
theorem z3k{f:FE}{Z:Ev}{s s':Sto}{l:List Str}(hw:wt l<=1000)(hf:f Z s=.ok (.lst (l.map D.str)) s'):eSM xA (eC (.str ":")) f Z s=.ok (.str (wC ":" l)) s':=by
 unfold eSM;rw[z22,Rb];simp only;rw[hf,Rb];unfold xA;rw[show (Dd.listOf s' (.lst (l.map D.str)))=some (l.map D.str) from rfl,_Z,z0Z];simp only;have h1:(":":Str).length=1:=by rw[col_eq];rfl
 have h2:l.toArray.foldl (λx w=>x+w.length+(":":Str).length) 0=wt l:=by rw[h1,List.foldl_toArray,z4v,_A]
 have h3:1000<=sizeLine:=by decide +kernel
 have h4:tooLong (wt l)=false:=_M (by omega);rw[_f ⟨by rw[h2];exact h4,by rw[ve];have:=vV l;unfold cap;omega⟩]
theorem z9U{t:Str}:wt (ws t)<=t.length+1:=by
 have h:=split_weight t ":" (by rw[col_eq];exact _i 1);have:∀l:List Str,wt l=(l.map (·.length)).sum+l.length:=λl=>by induction l with
  | nil=>rfl | cons x l ih=>rw[wZ,ih];simp;omega
 rw[this,z6z];exact h
def num(x:Int):Str:=Str.ofString (toString x)
theorem z77{n:Nat}(hn:n<2 ^ 2000)(s:Sto):yz [.int (n:Int)] s=.ok (.str (num n)) s/\Can (cl (num n))/\digitsVal (cl (num n))=n:=by
 obtain⟨w,e,c,d⟩:=z1B hn s;have:w=num n:=z0j (by
  have:=c.text;rw[d]at this;exact this.symm);subst this;exact⟨e,c,d⟩
def tx(v:List Int):Str:=wC ":" (v.map num)
section
variable {n:Nat}{v:List Int}(h:z7g n 104 v)
include h
theorem z4V:∀x∈v,∃k:Nat,x=k/\k<2 ^ 104:=λx hx=>by
 have h1:=h.abs x hx;have h2:=h.nn x hx;exact⟨x.toNat,by omega,by omega⟩
theorem jt{x:Int}(hx:x∈v):Can (cl (num x))/\((digitsVal (cl (num x)):Nat):Int)=x/\(num x).length<=32:=by
 obtain⟨k,rfl,hk⟩:=z4V h x hx;obtain⟨_,c,d⟩:=z77 (n:=k) (_e hk (by decide +kernel)) [];refine⟨c,by rw[d],?_⟩;have:=c.len (k:=32) (by decide) (by rw[d];exact _e hk (by decide +kernel));rw[kQ]at this;exact this
theorem zaU:wt (v.map num)<=132:=by
 have l4:=h.le4.1;have:∀u:List Int,(∀x∈u,x∈v)->wt (u.map num)<=33*u.length:=λu=>by induction u with
  | nil=>intro _;simp[wt] | cons x u ih=>
   intro hu;have h1:=(jt h (hu x (by simp))).2.2;have h2:=ih λy hy=>hu y (by simp[hy]);rw[_N,wZ,_c];omega
 have:=this v λx hx=>hx;omega
theorem z5w:Tx (tx v)/\(tx v).length<=132:=by
 have l:(tx v).length<=132:=by
  have:=vV (v.map num);rw[<- ve]at this;exact _v this (zaU h)
 refine⟨⟨?_,by omega⟩,l⟩;unfold tx;rw[ve];refine uB λw hw=>?_;obtain⟨x,hx,rfl⟩:=_L.mp hw;intro c hc;have:=(jt h hx).1.dg c hc;omega
theorem z95:ws (tx v)=v.map num:=z7V (by
  obtain⟨x,hx,_⟩:=h.pos;intro z;rw[List.map_eq_nil_iff]at z;rw[z]at hx;simp at hx) λw hw=>by
 obtain⟨x,hx,rfl⟩:=_L.mp hw;intro hc;have:=(jt h hx).1.dg 58 hc;omega
theorem z9B:z8l (tx v)=rD v:=by
 have e:wR (tx v)=v:=by
  unfold wR;rw[z95 h,_bN];conv=>rhs;rw[<- List.map_id v]
  exact _bc λx hx=>(jt h hx).2.1
 have f:(ws (tx v)).all fg=true:=by
  rw[z95 h,_z];intro w hw;obtain⟨x,hx,rfl⟩:=_L.mp hw;exact (jt h hx).1.fg
 have i:isL v=true:=by unfold isL;exact @_au _ (Classical.propDecidable _) ⟨n,h.toLot⟩
 unfold z8l;rw[e,f,i];rfl
end
theorem z4n:∀k,zV k=zr k
 | 0=>rfl | k+1=>by
  show Mof _ 2 (vM (zV k))=Mof _ 2 (yM (zr k));rw[z4n k];rfl
theorem z2A{d:D}(s:Sto)(h:vv 3 d):zQ [d,d] s=.ok (.bl true) s:=by
 show zV 4 [d,d] s=_;rw[z4n];exact jF 3 d s h
theorem z35(s:Sto):yo [.exc "NoText"] s=.ok (.str "text") s:=by kernel_rfl
theorem z5S(s:Sto):yo [.exc "NoLot"] s=.ok (.str "lot") s:=by kernel_rfl
theorem z54{w:Int}{d:D}{s:Sto}{r:D}(h:yk [some (.int w),some d,none] s=.ok (.rt r) s):zA [.int w,d] s=.ok r s:=by
 have st:zt ["_law_way","_law_thing","_law_e"] [.int w,d]=[some (.int w),some d,none]:=rfl;simp only[zA,Mof,vG,st,_c,_g,_H,wU,z9Z];rw[h]
theorem z2t{w:Int}{d:D}{s:Sto}{c z:Str}(hc:c∈rsX)(hk:yo [.exc c] s=.ok (.str z) s)(h:yk [some (.int w),some d,none] s=.ex c s):zA [.int w,d] s=.ok (.str z) s:=by
 have st:zt ["_law_way","_law_thing","_law_e"] [.int w,d]=[some (.int w),some d,none]:=rfl;have e:wS ((List.replicate 3 none).set 2 (some (.exc c))) s=.ok (.rt (.str z)) s:=by rw[wS,ud,yG (x:=.exc c) (by rfl),hk];rfl
 simp only[zA,Mof,vG,st,_c,_g,_H,wU,z9Z];rw[h];simp only[_f hc,_A,Nat.reduceAdd];rw[e]
theorem zac{w:Int}{d:D}{s:Sto}{x:Str}{X:Mir}(h0:dIx (.lst [.fn "read",.fn "written"]) (.int w) s=.ok (.fn x) s)(hx:List.lookup x [("read",vK),("written",yV)]=some X):yk [some (.int w),some d,none] s=(X [d] s).bind λr s1=>.ok (.rt r) s1:=by
 have c2:(2:Nat)<=cap:=by decide
 rw[yk,ud];simp only[z3o,wD,uI,zy,xB,z22,qq,_P,_O,Rb,_c,_g,_A,Nat.reduceAdd,_f c2,h0,hx]
theorem z5o{d:D}{s:Sto}:yk [some (.int 0),some d,none] s=(vK [d] s).bind λr s1=>.ok (.rt r) s1:=zac rfl rfl
theorem z6R{d:D}{s:Sto}:yk [some (.int 1),some d,none] s=(yV [d] s).bind λr s1=>.ok (.rt r) s1:=zac rfl rfl
theorem zcp:("NoText":Str)∈rsX:=by decide +kernel
theorem zda:("NoLot":Str)∈rsX:=by decide +kernel
def Th(d:D):Prop:=(∃z,d=.str z/\Tx z)\/((tyD d).isSome=true/\∀z,d≠.str z)
theorem kG:PyData.strOk "text"=true:=by decide +kernel
theorem z36(v:List Int)(h:v.length<=cap):vv 3 (rD v):=by
 refine⟨by simpa using h,λx hx=>?_⟩;obtain⟨y,_,rfl⟩:=_L.mp hx;trivial
theorem z20{d:D}(h:Th d)(s:Sto):∃r,zA [.int 0,d] s=.ok r s/\yn [d] s=.ok r s/\vv 3 r:=by
 rcases h with⟨z,rfl,t⟩ | ⟨h1,h2⟩
 ·have x:=zaA t s;refine⟨z8l z,?_,zao t s,?_⟩
  ·unfold z8l;by_cases q:((ws z).all fg&&isL (wR z))=true
   ·rw[_f q]at x ⊢;exact z54 (by rw[z5o,x];rfl)
   ·rw[_o q]at x ⊢;exact z2t zcp (z35 s) (by rw[z5o,x];rfl)
  ·unfold z8l;split
   ·refine z36 _ ?_;have:=z12 t.len;simp only[wR,_R];unfold cap;omega
   ·exact kG
 ·exact⟨.str "text",z2t zcp (z35 s) (by rw[z5o,z4i h1 h2];rfl),z69 h1 h2 s,kG⟩
theorem zbi {d:D} {s:Sto} (h:zx [d] s=.ok (.bl false) s):zA [.int 1,d] s=.ok (.str "lot") s:=by
 refine z2t zda (z5S s) ?_;have st:zt ["lot"] [d]=[some d]:=rfl;have x:yV [d] s=.ex "NoLot" s:=by
  simp only[yV,z2z,uk,st,_c,_g,_H];rw[za0 (c:="NoLot") (s':=s) (by rw[wq];exact z81 (by rw[yG (x:=d) (vr rfl)];exact z0y h))]
 rw[z6R,x];rfl
section
variable {n:Nat}{v:List Int}(h:z7g n 104 v)
include h
theorem z74 {f:FE} {fe:FE} {Z:Ev} {s:Sto} {i:Nat} (hv:Z[i]? = some (some (rD v))) (hf:∀x∈v,fe [some (.int x)] s=.ok (.str (num x)) s):eSM xA (eC (.str ":")) (yE (xu (zc i)) [none] (wa 0) vR fe) Z s=.ok (.str (tx v)) s:=by
 have c:=comp_map (fi:=xu (zc i)) (mp:=[none]) (fg:=wa 0) (fe:=fe) (Z:=Z) (s:=s) D.int (λx=>D.str (num x)) (λx=>[some (.int x)]) v (z6w (vr hv)) (λx _=>by simp) hf (by have:=h.le4.1;unfold cap;omega);exact z3k (l:=v.map num) (by have:=zaU h;omega) (by rw[c];simp[_aB])
theorem za6 (s:Sto):zA [.int 1,rD v] s=.ok (.str (tx v)) s:=by
 refine z54 ?_;have st:zt ["lot"] [rD v]=[some (rD v)]:=rfl;have j:vk [some (rD v)] s=.ok (.rt (.str (tx v))) s:=by
  rw[vk,ud,z74 h (fe:=zf yz (za (zc 0) zj)) (f:=zc 0) rfl (λx hx=>by
   obtain⟨k,rfl,hk⟩:=z4V h x hx;rw[yG (x:=.int (k:Int)) (vr rfl)];exact (z77 (_e hk (by decide +kernel)) s).1)];rfl
 have f1:wq [some (rD v)] s=.ok (.nx [some (rD v)]) s:=by rw[wq,z2y,yG (x:=rD v) (vr rfl),kA h.toLot s];rfl
 have x:yV [rD v] s=.ok (.str (tx v)) s:=by
  simp only[yV,z2z,uk,st,_c,_g,_H];rw[zn f1,show xH vk [some (rD v)] s=.ok (.rt (.str (tx v))) s by rw[xH,j]]
 rw[z6R,x];rfl
theorem zcO{Z:Ev}(s:Sto)(hv:Z[4]? = some (some (rD v))):z0n Z s=.ok (.nx (Z.set 1 (some (.str (tx v))))) s:=by
 rw[z0n,zY,z74 h (f:=zc 0) hv (λx hx=>by
  obtain⟨k,rfl,hk⟩:=z4V h x hx;rw[yG (x:=.int (k:Int)) (vr rfl)];simp only[z6b];have lg:(k:Int).natAbs.log2<1920:=by
   rw[Int.natAbs_natCast];by_cases z:k=0;·subst z;decide
   ·exact (Nat.log2_lt z).mpr (_e hk (by decide +kernel))
  rw[_f lg];rfl)];rfl
end
theorem uS{z:Str}(h:(cl z).all (· < 128)=true):Asc z:=λc hc=>by
 have:=_z.mp h c hc;simpa using this
theorem Asc.app{a b:Str}(ha:Asc a)(hb:Asc b):Asc (a++b):=λc hc=>by
 rw[z4y]at hc;exact (_F.mp hc).elim (ha c) (hb c)
theorem jw{t:Str}(h:Asc t)(i j:Option Int):Asc (Txt.slice t i j):=by
 unfold Txt.slice;split;·exact h
 ·intro c hc;simp only[cl,_aL]at hc;obtain⟨x,_,hx⟩:=hc;exact h c (by simpa[cl] using Array.mem_of_getElem? hx)
theorem wO{z:Str}(h:Asc z)(hl:z.length<=640):Th (.str z):=.inl ⟨z,rfl,h,hl⟩
theorem z9F{d:D}(h:d∈z5t):Th d:=by
 simp only[z5t,_l,_af,_bm]at h;rcases h with rfl | rfl | rfl | rfl | rfl | rfl | rfl | rfl | rfl | rfl | rfl | rfl | rfl | rfl | rfl | rfl;case inr.inr.inr.inr.inr.inr.inr.inl=>exact wO (uS (by decide +kernel)) (by decide +kernel)
 case inr.inr.inr.inr.inr.inr.inr.inr.inl=>exact wO (uS (by decide +kernel)) (by decide +kernel)
 all_goals exact .inr ⟨rfl,λz e=>by cases e⟩
theorem z5q{a b:Str}{s:Sto}(h:a.length+b.length<=1000):yK (.str a) (.str b) s=.ok (.str (a++b)) s:=by
 simp only[yK];rw[_f (by unfold cap;omega)]
theorem zcC{z:Str}{s:Sto}(h:z.length<=1000):z05 [.str z] s=.ok (.int z.length) s:=by
 simp only[z05];rw[_f (by unfold cap;omega)]
theorem slT{f g:FE}{Z:Ev}{s:Sto}{t:Str}{k:Int}(h:t.length<=1000)(hf:f Z s=.ok (.str t) s)(hg:g Z s=.ok (.int k) s):z5r f (yh g) Z s=.ok (.str (Txt.slice t none (some k))) s:=by
 unfold z5r;rw[hf,Rb,uX,hg];simp only[Rb];rw[_f (by unfold cap;omega)]
theorem slS{f g:FE}{Z:Ev}{s:Sto}{t:Str}{k:Int}(h:t.length<=1000)(hf:f Z s=.ok (.str t) s)(hg:g Z s=.ok (.int k) s):z6G f (yh g) Z s=.ok (.str (Txt.slice t (some k) none)) s:=by
 unfold z6G;rw[hf,Rb,uX,hg];simp only[Rb];rw[_f (by unfold cap;omega)]
theorem z6u(xs:List D)(i:Nat)(s:Sto):dSl (.lst xs) none (some (i:Int)) s=.ok (.lst (xs.take i)) s:=by
 have h:=z4o xs i s;simp only[dSl]at h;injection h with h _;injection h with h;simp only[dSl,Dd.listOf,h]
theorem z6r(xs:List D)(i:Nat)(s:Sto):dSl (.lst xs) (some (i:Int)) none s=.ok (.lst (xs.drop i)) s:=by
 have h:=z57 xs i s;simp only[dSl]at h;injection h with h _;injection h with h;simp only[dSl,Dd.listOf,h]
theorem z98(l:List Str)(j:Nat):wt (l.take j)+wt (l.drop (j+1))<=wt l:=by
 have e:wt l=wt (l.take j)+wt (l.drop j):=by rw[<- jo,List.take_append_drop]
 have:wt (l.drop (j+1))<=wt (l.drop j):=by
  by_cases h:j<l.length
  ·rw[_aF h,wZ];omega
  ·rw[List.drop_eq_nil_of_le (by omega)];simp[wt]
 omega
theorem z38:∀l:List Str,l.length<=wt l
 | []=>by simp | w::l=>by have:=z38 l;rw[wZ,_c];omega
def SG1:Str:=" !\"#$&'()*+,-./0123456789:;<=>?@ABCDEFGHIJKLMNOPQRSTUVWXYZ[\\]^_`"
def SG2:Str:="abcdefghijklmnopqrstuvwxyz{|}~\t\n"
def SG:Str:=SG1++SG2
theorem z3d:SG.length=96:=by decide +kernel
theorem zaJ:Asc SG:=uS (by decide +kernel)
def Lit(w:Str):Prop:=Asc w/\w.length<=3
theorem z2V{z:Str}(h:(cl z).all (· < 128)=true)(hl:z.length<=3):Lit z:=⟨uS h,hl⟩
abbrev B9(l:Nat)(t:Str)(a b c d e f g:Option D):Ev:=[some (.loc l),some (.str t),a,b,c,d,e,f,g]
section
variable {l:Nat}{t:Str}{s:Sto}{a b c d e f g:Option D}
theorem b2:(zM yq (zM zN yO)) (B9 l t a b c d e f g) s=.ok (.nx (B9 l t (some (.str SG)) b c d e f g)) s:=by
 have h:yK (.str SG1) (.str SG2) s=.ok (.str SG) s:=z5q (by decide +kernel);rw[zn (f:=yq) (Z':=B9 l t (some (.str SG1)) b c d e f g) (s':=s) rfl,zn (f:=zN) (Z':=B9 l t (some (.str SG)) b c d e f g) (s':=s) (by rw[zN,zY,op2 (x:=.str SG1) (y:=.str SG2) (vr rfl) rfl,h];rfl)];rfl
theorem b3 (hp:Pot s l):∃w s',Lit w/\xc s s' l/\yR (B9 l t (some (.str SG)) b c d e f g) s=.ok (.nx (B9 l t (some (.str SG)) (some (.str w)) c d e f g)) s':=by
 obtain⟨r,s1,e1,a1,b1,d1⟩:=xa (f:=zc 0) (g:=zf z05 (za (zc 2) zj)) (far:=96) (Z:=B9 l t (some (.str SG)) b c d e f g) hp (by decide) (vn (by decide)) (vr rfl) (by rw[yG (x:=.str SG) (vr rfl),zcC (by rw[z3d];decide),z3d];rfl);have hr:r.toNat<(cl SG).length:=by rw[kQ,z3d];omega
 have ix:z1w (.str SG) (.int r) s1=.ok (.str ⟨#[(cl SG)[r.toNat]]⟩) s1:=by
  have e:atI (cl SG) r=some (cl SG)[r.toNat]:=by
   unfold atI ixN;rw[_f a1,_f (by omega)];simp[hr]
  simp only[z1w];rw[_f (by rw[z3d];decide),e]
 have lw:Lit ⟨#[(cl SG)[r.toNat]]⟩:=⟨λx hx=>by
  have:x=(cl SG)[r.toNat]:=by simpa[cl] using hx
  rw[this];exact zaJ _ (_ai hr),by show (1:Nat)<=3;decide⟩;generalize (⟨#[(cl SG)[r.toNat]]⟩:Str)=w at ix lw;have c4:(4:Nat)<=cap:=by decide
 have li:vd (za (eC (.str "0")) (za (eC (.str "1")) (za (eC (.str ":")) (za (eOp z1w (zc 2) (zf Pg.zg (za (zc 0) (za (zf z05 (za (zc 2) zj)) zj)))) zj)))) (B9 l t (some (.str SG)) b c d e f g) s=.ok (.lst [.str "0",.str "1",.str ":",.str w]) s1:=by
  rw[uI,zy,z22,Rb,zy,z22,Rb,zy,z22,Rb,zy,wD,vr (d:=.str SG) rfl,Rb,e1,Rb,ix];simp only[xB,Rb,_c,_g,_A,Nat.reduceAdd,_f c4]
 obtain⟨r2,s2,e2,a2,b2,d2⟩:=xa (f:=zc 0) (g:=eC (.int 4)) (far:=4) (Z:=B9 l t (some (.str SG)) b c d e f g) d1.pot (by decide) (vn (by decide)) (vr rfl) rfl;have q:∃z,Lit z/\dIx (.lst [.str "0",.str "1",.str ":",.str w]) (.int r2) s2=.ok (.str z) s2:=by
  rcases (by omega:r2=0\/r2=1\/r2=2\/r2=3) with rfl | rfl | rfl | rfl;·exact⟨"0",z2V (by decide +kernel) (by decide +kernel),rfl⟩
  ·exact⟨"1",z2V (by decide +kernel) (by decide +kernel),rfl⟩
  ·exact⟨":",z2V (by decide +kernel) (by decide +kernel),rfl⟩
  ·exact⟨w,lw,rfl⟩
 obtain⟨z,hz,ez⟩:=q;refine⟨z,s2,hz,d1.trans d2,?_⟩;rw[yR,zY,wD,li,Rb,e2,Rb,ez];rfl
theorem b4 (hp:Pot s l) (ht:t.length<=140):∃(k:Nat) (s':Sto),xc s s' l/\yS (B9 l t a b c d e f g) s=.ok (.nx (B9 l t a b (some (.int (k:Int))) d e f g)) s':=by
 obtain⟨r,s1,e1,a1,b1,d1⟩:=xa (f:=zc 0) (g:=eOp xy (zf z05 (za (zc 1) zj)) (eC (.int 1))) (far:=(t.length:Int)+1) (Z:=B9 l t a b c d e f g) hp (by omega) (vn (by omega)) (vr rfl) (by rw[op2 (x:=.int t.length) (y:=.int 1) (by rw[yG (x:=.str t) (vr rfl),zcC (by omega)]) rfl,z2X]);obtain⟨k,rfl⟩:∃k:Nat,r=k:=⟨r.toNat,by omega⟩;refine⟨k,s1,d1,?_⟩;rw[yS,zY,e1];rfl
theorem b5(h:Tx t):yY (B9 l t a b c d e f g) s=.ok (.nx (B9 l t a b c (some (.lst ((ws t).map D.str))) e f g)) s:=by
 rw[yY,zY,z2w h (vr rfl)];rfl
theorem b6 (hp:Pot s l) (ht:t.length<=140):∃(k:Nat) (s':Sto),xc s s' l/\yX (B9 l t a b c (some (.lst ((ws t).map D.str))) e f g) s=.ok (.nx (B9 l t a b c (some (.lst ((ws t).map D.str))) (some (.int (k:Int))) f g)) s':=by
 have l1:1<=(ws t).length:=split_pos t ":";have l2:=z12 (t:=t) (by omega);obtain⟨r,s1,e1,a1,b1,d1⟩:=xa (f:=zc 0) (g:=zf wb (za (zc 5) zj)) (far:=((ws t).length:Int)) (Z:=B9 l t a b c (some (.lst ((ws t).map D.str))) e f g) hp (by omega) (vn (by omega)) (vr rfl) (by
  rw[yG (x:=.lst ((ws t).map D.str)) (vr rfl)];simp[wb,zU]);obtain⟨k,rfl⟩:∃k:Nat,r=k:=⟨r.toNat,by omega⟩;refine⟨k,s1,d1,?_⟩;rw[yX,zY,e1];rfl
theorem b7 (hp:Pot s l):∃w s',Lit w/\xc s s' l/\yT (B9 l t a b c d e f g) s=.ok (.nx (B9 l t a b c d e (some (.str w)) g)) s':=by
 have li:vd (za (eC (.str "")) (za (eC (.str "-0")) (za (eC (.str "00")) (za (eC (.str "01")) (za (eC (.str "-1")) (za (eC (.str "+1")) (za (eC (.str "1_0")) (za (eC (.str " 1")) (za (eC (.str "0")) (za (eC (.str "7")) zj)))))))))) (B9 l t a b c d e f g) s=.ok (.lst [.str "",.str "-0",.str "00",.str "01",.str "-1",.str "+1",.str "1_0",.str " 1",.str "0",.str "7"]) s:=rfl;obtain⟨r2,s2,e2,a2,b2,d2⟩:=xa (f:=zc 0) (g:=eC (.int 10)) (far:=10) (Z:=B9 l t a b c d e f g) hp (by decide) (vn (by decide)) (vr rfl) rfl;have q:∃z,Lit z/\dIx (.lst [.str "",.str "-0",.str "00",.str "01",.str "-1",.str "+1",.str "1_0",.str " 1",.str "0",.str "7"]) (.int r2) s2=.ok (.str z) s2:=by
  rcases (by omega:r2=0\/r2=1\/r2=2\/r2=3\/r2=4\/r2=5\/r2=6\/r2=7\/r2=8\/r2=9) with rfl | rfl | rfl | rfl | rfl | rfl | rfl | rfl | rfl | rfl;all_goals exact⟨_,z2V (by decide +kernel) (by decide +kernel),rfl⟩
 obtain⟨z,hz,ez⟩:=q;refine⟨z,s2,hz,d2,?_⟩;rw[yT,zY,wD,li,Rb,e2,Rb,ez];rfl
theorem b8 (h:Tx t) (ht:t.length<=140) {w:Str} (hw:Lit w) {k:Nat}:∃xs,(∀x∈xs,Th x)/\xs.length=4/\yU (B9 l t a (some (.str w)) (some (.int (k:Int))) d e f g) s=.ok (.nx (B9 l t a (some (.str w)) (some (.int (k:Int))) d e f (some (.lst xs)))) s:=by
 have sA:=slT (f:=zc 1) (g:=zc 4) (Z:=B9 l t a (some (.str w)) (some (.int (k:Int))) d e f g) (s:=s) (t:=t) (k:=k) (by omega) (vr rfl) (vr rfl);have sB:=slS (f:=zc 1) (g:=zc 4) (Z:=B9 l t a (some (.str w)) (some (.int (k:Int))) d e f g) (s:=s) (t:=t) (k:=k) (by omega) (vr rfl) (vr rfl);have sC:=slS (f:=zc 1) (g:=eOp xy (zc 4) (eC (.int 1))) (Z:=B9 l t a (some (.str w)) (some (.int (k:Int))) d e f g) (s:=s) (t:=t) (k:=(k:Int)+1) (by omega) (vr rfl) (by rw[op2 (x:=.int (k:Int)) (y:=.int 1) (vr rfl) rfl,z2X]);have hA:=jw h.asc none (some (k:Int));have lA:=Txt.slice_le t none (some (k:Int));have hB:=jw h.asc (some (k:Int)) none;have lB:=Txt.slice_le t (some (k:Int)) none;have hC:=jw h.asc (some ((k:Int)+1)) none;have lC:=Txt.slice_le t (some ((k:Int)+1)) none;generalize Txt.slice t none (some (k:Int))=A at sA hA lA;generalize Txt.slice t (some (k:Int)) none=B at sB hB lB;generalize Txt.slice t (some ((k:Int)+1)) none=C at sC hC lC;have lw:=hw.2;have l1:(":":Str).length=1:=by rw[col_eq];rfl
 have eW:=len_app A w;have i0:eOp yK (z5r (zc 1) (yh (zc 4))) (zc 3) (B9 l t a (some (.str w)) (some (.int (k:Int))) d e f g) s=.ok (.str (A++w)) s:=by rw[op2 (x:=.str A) (y:=.str w) sA (vr rfl),z5q (by omega)]
 have i1:eOp yK (eOp yK (z5r (zc 1) (yh (zc 4))) (zc 3)) (z6G (zc 1) (yh (zc 4))) (B9 l t a (some (.str w)) (some (.int (k:Int))) d e f g) s=.ok (.str (A++w++B)) s:=by rw[op2 (x:=.str (A++w)) (y:=.str B) i0 sB,z5q (by omega)]
 have i2:eOp yK (z5r (zc 1) (yh (zc 4))) (z6G (zc 1) (yh (eOp xy (zc 4) (eC (.int 1))))) (B9 l t a (some (.str w)) (some (.int (k:Int))) d e f g) s=.ok (.str (A++C)) s:=by rw[op2 (x:=.str A) (y:=.str C) sA sC,z5q (by omega)]
 have i3:eOp yK (eOp yK (z5r (zc 1) (yh (zc 4))) (zc 3)) (z6G (zc 1) (yh (eOp xy (zc 4) (eC (.int 1))))) (B9 l t a (some (.str w)) (some (.int (k:Int))) d e f g) s=.ok (.str (A++w++C)) s:=by rw[op2 (x:=.str (A++w)) (y:=.str C) i0 sC,z5q (by omega)]
 have i4:eOp yK (zc 1) (eC (.str ":")) (B9 l t a (some (.str w)) (some (.int (k:Int))) d e f g) s=.ok (.str (t++":")) s:=by rw[op2 (x:=.str t) (y:=.str ":") (vr rfl) rfl,z5q (by omega)]
 have c4:(4:Nat)<=cap:=by decide
 have hcol:Asc ":":=uS (by decide +kernel);refine⟨[.str (A++w++B),.str (A++C),.str (A++w++C),.str (t++":")],?_,rfl,?_⟩
 ·intro x hx;simp only[_l,_af,_bm]at hx;rcases hx with rfl | rfl | rfl | rfl;·exact wO ((hA.app hw.1).app hB) (by rw[len_app,eW];omega)
  ·exact wO (hA.app hC) (by rw[len_app];omega)
  ·exact wO ((hA.app hw.1).app hC) (by rw[len_app,eW];omega)
  ·exact wO (h.asc.app hcol) (by rw[len_app];omega)
 ·rw[yU,zY,uI,zy,i1,Rb,zy,i2,Rb,zy,i3,Rb,zy,i4];simp only[xB,Rb,_c,_g,_A,Nat.reduceAdd,_f c4];rfl
theorem b9 (h:Tx t) (ht:t.length<=140) {w:Str} (hw:Lit w) {j:Nat} {xs:List D} (hx:∀x∈xs,Th x) (hl:xs.length=4):∃ys,(∀x∈ys,Th x)/\ys.length=6/\yW (B9 l t a b c (some (.lst ((ws t).map D.str))) (some (.int (j:Int))) (some (.str w)) (some (.lst xs))) s=.ok (.nx (B9 l t a b c (some (.lst ((ws t).map D.str))) (some (.int (j:Int))) (some (.str w)) (some (.lst ys)))) s:=by
 have wk:=z9U (t:=t);have cu:=z98 (ws t) j;have w1:wt [w]=w.length+1:=by rw[wZ,z9c]
 have lw:=hw.2;have ok:=z6l h.asc h.len;have aT:∀z∈(ws t).take j,Asc z:=λz hz=>(ok z (_Q hz)).1;have aU:∀z∈(ws t).drop (j+1),Asc z:=λz hz=>(ok z (_a3 hz)).1;have sk:∀s,dSl (.lst ((ws t).map D.str)) none (some (j:Int)) s=.ok (.lst (((ws t).take j).map D.str)) s:=λs=>by rw[z6u,List.map_take]
 have sd:∀s,dSl (.lst ((ws t).map D.str)) (some ((j:Int)+1)) none s=.ok (.lst (((ws t).drop (j+1)).map D.str)) s:=λs=>by rw[List.map_drop];exact z6r _ (j+1) s
 have lT:=z38 ((ws t).take j);have lU:=z38 ((ws t).drop (j+1));generalize (ws t).take j=T at sk aT lT cu;generalize (ws t).drop (j+1)=U at sd aU lU cu;generalize hZ:B9 l t a b c (some (.lst ((ws t).map D.str))) (some (.int (j:Int))) (some (.str w)) (some (.lst xs))=Z;have r5:Z[5]? = some (some (.lst ((ws t).map D.str))):=by rw[<- hZ];rfl
 have r6:Z[6]? = some (some (.int (j:Int))):=by rw[<- hZ];rfl
 have r7:Z[7]? = some (some (.str w)):=by rw[<- hZ];rfl
 have r8:Z[8]? = some (some (.lst xs)):=by rw[<- hZ];rfl
 have t1:eSl (zc 5) zO (yh (zc 6)) Z s=.ok (.lst (T.map D.str)) s:=by
  rw[z6A,vr r5,Rb,uG,Rb,uX,vr r6];simp only[Rb];exact sk s
 have t2:eSl (zc 5) (yh (eOp xy (zc 6) (eC (.int 1)))) zO Z s=.ok (.lst (U.map D.str)) s:=by
  rw[z6A,vr r5,Rb,uX,op2 (x:=.int (j:Int)) (y:=.int 1) (vr r6) rfl,z2X];simp only[Rb,uG];exact sd s
 have i1:eSM xA (eC (.str ":")) (eOp xy (eOp xy (eSl (zc 5) zO (yh (zc 6))) (vd (za (zc 7) zj))) (eSl (zc 5) (yh (eOp xy (zc 6) (eC (.int 1)))) zO)) Z s=.ok (.str (wC ":" (T++[w]++U))) s:=by
  refine z3k (l:=T++[w]++U) (by rw[jo,jo];omega) ?_;have c1:(1:Nat)<=cap:=by decide
  have z1:vd (za (zc 7) zj) Z s=.ok (.lst [.str w]) s:=by
   rw[uI,zy,vr r7];simp only[xB,Rb,_c,_g,_A,_f c1]
  have z2:eOp xy (eSl (zc 5) zO (yh (zc 6))) (vd (za (zc 7) zj)) Z s=.ok (.lst ((T++[w]).map D.str)) s:=by
   rw[op2 t1 z1,z1k,_f (by simp only[_R,_c,_g];unfold cap;omega)];simp
  rw[op2 z2 t2,z1k,_f (by simp only[_R,_aj,_c,_g];unfold cap;omega)];simp
 have i2:eSM xA (eC (.str ":")) (eOp xy (eSl (zc 5) zO (yh (zc 6))) (eSl (zc 5) (yh (eOp xy (zc 6) (eC (.int 1)))) zO)) Z s=.ok (.str (wC ":" (T++U))) s:=by
  refine z3k (l:=T++U) (by rw[jo];omega) ?_;rw[op2 t1 t2,z1k,_f (by simp only[_R];unfold cap;omega)];simp
 have c2:(2:Nat)<=cap:=by decide
 have c6:(4:Nat)+2<=cap:=by decide
 refine⟨xs++[.str (wC ":" (T++[w]++U)),.str (wC ":" (T++U))],?_,by simp[hl],?_⟩
 ·intro x hx';rcases _F.mp hx' with hx' | hx';·exact hx x hx'
  ·simp only[_l,_af,_bm]at hx';rcases hx' with rfl | rfl
   ·rw[ve];refine wO (uB λz hz=>?_) (by have:=vV (T++[w]++U);rw[jo,jo]at this;omega);simp only[_F,_l,_af,_bm]at hz;rcases hz with (hz | rfl) | hz;·exact aT z hz
    ·exact hw.1
    ·exact aU z hz
   ·rw[ve];refine wO (uB λz hz=>?_) (by have:=vV (T++U);rw[jo]at this;omega);exact (_F.mp hz).elim (aT z) (aU z)
 ·have li:vd (za (eSM xA (eC (.str ":")) (eOp xy (eOp xy (eSl (zc 5) zO (yh (zc 6))) (vd (za (zc 7) zj))) (eSl (zc 5) (yh (eOp xy (zc 6) (eC (.int 1)))) zO))) (za (eSM xA (eC (.str ":")) (eOp xy (eSl (zc 5) zO (yh (zc 6))) (eSl (zc 5) (yh (eOp xy (zc 6) (eC (.int 1)))) zO))) zj)) Z s=.ok (.lst [.str (wC ":" (T++[w]++U)),.str (wC ":" (T++U))]) s:=by
   rw[uI,zy,i1,Rb,zy,i2];simp only[xB,Rb,_c,_g,_A,Nat.reduceAdd,_f c2]
  rw[yW,zY,op2 (vr r8) li,z1k,hl];simp only[_c,_g,_A,_f c6,Rb];rw[<- hZ];rfl
theorem b10 (hp:Pot s l) (h:Tx t) (ht:t.length<=140) {xs:List D} (hx:∀x∈xs,Th x) (hl:xs.length=6):∃ys s',(∀x∈ys,Th x)/\ys.length=11/\xc s s' l/\yI (B9 l t a b c (some (.lst ((ws t).map D.str))) e f (some (.lst xs))) s=.ok (.nx (B9 l t a b c (some (.lst ((ws t).map D.str))) e f (some (.lst ys)))) s':=by
 have wk:=z9U (t:=t);have lk:=z38 (ws t);generalize hZ:B9 l t a b c (some (.lst ((ws t).map D.str))) e f (some (.lst xs))=Z;have r0:Z[0]? = some (some (.loc l)):=by rw[<- hZ];rfl
 have r1:Z[1]? = some (some (.str t)):=by rw[<- hZ];rfl
 have r5:Z[5]? = some (some (.lst ((ws t).map D.str))):=by rw[<- hZ];rfl
 have r8:Z[8]? = some (some (.lst xs)):=by rw[<- hZ];rfl
 have l1:(":":Str).length=1:=by rw[col_eq];rfl
 have hcol:Asc ":":=uS (by decide +kernel);have e1:=len_app t ":";have i1:eOp yK (eOp yK (zc 1) (eC (.str ":"))) (zc 1) Z s=.ok (.str (t++":"++t)) s:=by rw[op2 (x:=.str (t++":")) (y:=.str t) (by rw[op2 (x:=.str t) (y:=.str ":") (vr r1) rfl,z5q (by omega)]) (vr r1),z5q (by omega)]
 have i2:eOp yK (eC (.str ":")) (zc 1) Z s=.ok (.str (":"++t)) s:=by rw[op2 (x:=.str ":") (y:=.str t) rfl (vr r1),z5q (by omega)]
 have cm:=comp_map (fi:=xu (zc 5)) (mp:=[none]) (fg:=wa 0) (fe:=eC (.str "0")) (Z:=Z) (s:=s) D.str (λ_=>D.str "0") (λw=>[some (.str w)]) (ws t) (jh (vr r5)) (λx _=>by simp) (λx _=>rfl) (by unfold cap;omega);have w0:∀l:List Str,wt (l.map λ_=>("0":Str))=2*l.length:=λl=>by induction l with
  | nil=>rfl | cons x l ih=>
   rw[_N,wZ,ih,_c];have:("0":Str).length=1:=by decide +kernel
   omega
 have w1:=w0 (ws t);have i4:eSM xA (eC (.str ":")) (yE (xu (zc 5)) [none] (wa 0) vR (eC (.str "0"))) Z s=.ok (.str (wC ":" ((ws t).map λ_=>("0":Str)))) s:=z3k (by omega) (by rw[cm];simp[_aB]);obtain⟨o,s',eo,ho,dr⟩:=zc0 hp;have i5:zf Pg.xg (za (zc 0) zj) Z s=.ok o s':=by rw[yG (x:=.loc l) (vr r0)];exact eo
 have c5:(5:Nat)<=cap:=by decide
 have c11:(6:Nat)+5<=cap:=by decide
 refine⟨xs++[.str (t++":"++t),.str (":"++t),.str "",.str (wC ":" ((ws t).map λ_=>("0":Str))),o],s',?_,by simp[hl],dr,?_⟩
 ·intro x hx';rcases _F.mp hx' with hx' | hx';·exact hx x hx'
  ·simp only[_l,_af,_bm]at hx';rcases hx' with rfl | rfl | rfl | rfl | rfl;·exact wO ((h.asc.app hcol).app h.asc) (by rw[len_app,e1];omega)
   ·exact wO (hcol.app h.asc) (by rw[len_app];omega)
   ·exact wO (uS (by decide +kernel)) (by decide +kernel)
   ·rw[ve];refine wO (uB λz hz=>?_) (by have:=vV ((ws t).map λ_=>("0":Str));omega);obtain⟨_,_,rfl⟩:=_L.mp hz;exact uS (by decide +kernel)
   ·exact z9F ho
 ·have li:vd (za (eOp yK (eOp yK (zc 1) (eC (.str ":"))) (zc 1)) (za (eOp yK (eC (.str ":")) (zc 1)) (za (eC (.str "")) (za (eSM xA (eC (.str ":")) (yE (xu (zc 5)) [none] (wa 0) vR (eC (.str "0")))) (za (zf Pg.xg (za (zc 0) zj)) zj))))) Z s=.ok (.lst [.str (t++":"++t),.str (":"++t),.str "",.str (wC ":" ((ws t).map λ_=>("0":Str))),o]) s':=by
   rw[uI,zy,i1,Rb,zy,i2,Rb,zy,z22,Rb,zy,i4,Rb,zy,i5];simp only[xB,Rb,_c,_g,_A,Nat.reduceAdd,_f c5]
  rw[yI,zY,wD,vr r8,Rb,li,Rb,z1k,hl];simp only[_c,_g,_A,_f c11,Rb];rw[<- hZ];rfl
end
theorem z4w {l:Nat} {t:Str} {s:Sto} (hp:Pot s l) (h:Tx t) (ht:t.length<=140):∃d s',zG [.loc l,.str t] s=.ok d s'/\Th d/\xc s s' l:=by
 have st:zt ["_law_pot_here","_law_text","_law_signs","_law_sign","_law_at","_law_words","_law_spot","_law_word","_law_some"] [.loc l,.str t]=B9 l t none none none none none none none:=rfl;obtain⟨w,s3,lw,d3,f3⟩:=b3 (t:=t) (b:=none) (c:=none) (d:=none) (e:=none) (f:=none) (g:=none) hp;obtain⟨k,s4,d4,f4⟩:=b4 (a:=some (.str SG)) (b:=some (.str w)) (c:=none) (d:=none) (e:=none) (f:=none) (g:=none) d3.pot ht;have f5:=b5 (l:=l) (s:=s4) (a:=some (.str SG)) (b:=some (.str w)) (c:=some (.int (k:Int))) (d:=none) (e:=none) (f:=none) (g:=none) h;obtain⟨j,s6,d6,f6⟩:=b6 (a:=some (.str SG)) (b:=some (.str w)) (c:=some (.int (k:Int))) (e:=none) (f:=none) (g:=none) d4.pot ht;obtain⟨u,s7,lu,d7,f7⟩:=b7 (t:=t) (a:=some (.str SG)) (b:=some (.str w)) (c:=some (.int (k:Int))) (d:=some (.lst ((ws t).map D.str))) (e:=some (.int (j:Int))) (f:=none) (g:=none) d6.pot;obtain⟨xs,hx,lx,f8⟩:=b8 (l:=l) (s:=s7) (a:=some (.str SG)) (d:=some (.lst ((ws t).map D.str))) (e:=some (.int (j:Int))) (f:=some (.str u)) (g:=none) h ht lw (k:=k);obtain⟨ys,hy,ly,f9⟩:=b9 (l:=l) (s:=s7) (a:=some (.str SG)) (b:=some (.str w)) (c:=some (.int (k:Int))) (j:=j) h ht lu hx lx;obtain⟨zs,s10,hz,lz,d10,f10⟩:=b10 (a:=some (.str SG)) (b:=some (.str w)) (c:=some (.int (k:Int))) (e:=some (.int (j:Int))) (f:=some (.str u)) d7.pot h ht hy ly;obtain⟨r,s11,e11,a11,b11,d11⟩:=xa (f:=zc 0) (g:=eC (.int 11)) (far:=11) (Z:=B9 l t (some (.str SG)) (some (.str w)) (some (.int (k:Int))) (some (.lst ((ws t).map D.str))) (some (.int (j:Int))) (some (.str u)) (some (.lst zs))) d10.pot (by decide) (vn (by decide)) (vr rfl) rfl;have hr:r.toNat<zs.length:=by rw[lz];omega
 have ix:=uC (xs:=zs) (d:=zs[r.toNat]) (s:=s11) a11 (by simp[hr]);have hd:yK (.str SG1) (.str SG2) s=.ok (.str SG) s:=z5q (by decide +kernel);refine⟨zs[r.toNat],s11,?_,hz _ (_ai hr),((((d3.trans d4).trans d6).trans d7).trans d10).trans d11⟩;simp only[zG,Mof,wN,st,_c,_g,_H];rw[zn (f:=yq) (Z':=B9 l t (some (.str SG1)) none none none none none none) (s':=s) rfl,zn (f:=zN) (Z':=B9 l t (some (.str SG)) none none none none none none) (s':=s) (by rw[zN,zY,op2 (x:=.str SG1) (y:=.str SG2) (vr rfl) rfl,hd];rfl),zn f3,zn f4,zn f5,zn f6,zn f7,zn f8,zn f9,zn f10,xU,ud,wD,vr (d:=.lst zs) rfl,Rb,e11,Rb,ix];rfl
theorem gs{Z:Ev}{i j:Nat}{x:Option D}{d:Option D}(h:i≠j)(e:Z[j]? = some d):(Z.set i x)[j]? = some d:=by rw[_y h];exact e
theorem ga{Z:Ev}{i:Nat}{x:Option D}(h:i<Z.length):(Z.set i x)[i]? = some x:=_w h
theorem z1S {Z:Ev} {s:Sto} {i:Nat} {d:D} (h:Th d) (hi:Z[i]? = some (some d)):kg (tOf (zf Pg.zQ (za (zf zA (za (eC (.int 0)) (za (zc i) zj))) (za (zf yn (za (zc i) zj)) zj)))) Z s=.ok false s:=by
 obtain⟨r,e1,e2,hn⟩:=z20 h s;refine z8i (xx ?_);rw[call2 (x:=r) (y:=r) (by rw[call2 (x:=.int 0) (y:=d) rfl (vr hi)];exact e1) (by rw[yG (x:=d) (vr hi)];exact e2)];exact z2A s hn
def ShL(ns:List Int)(Z:Ev):Prop:=Z.length=7/\Z[0]? = some (some (.scr (ns.map D.int)))
def z1e:List D:=[.str "0:0",.str "1",.str "0:1",.str "1:2:3:4",.str "1:2:3:4:5",.str "",.str ":",.str "01:1"]
theorem z62:∀d∈z1e,Th d:=by
 intro d h;simp only[z1e,_l,_af,_bm]at h;rcases h with rfl | rfl | rfl | rfl | rfl | rfl | rfl | rfl;all_goals exact wO (uS (by decide +kernel)) (by decide +kernel)
theorem first {ns:List Int} {Z:Ev} {s:Sto} (h:ShL ns Z):∃Z',z2g Z s=.ok (.nx Z') s/\ShL ns Z':=by
 obtain⟨Z',s',e,h',rfl⟩:=ji (all:=z1e) (body:=λd Z s=>(wa 1 d Z s).bind λZ' s'=>z24 Z' s') (λZ s1=>ShL ns Z/\s1=s) z1e (λx hx Z s1 hI=>by
  obtain⟨⟨l7,r0⟩,rfl⟩:=hI;refine⟨Z.set 1 (some x),s1,?_,⟨by simp[l7],gs (by decide) r0⟩,rfl⟩;rw[jW,Rb,z24,zaY (z1S (z62 x hx) (ga (by omega)))];rfl) Z s ⟨h,rfl⟩;refine⟨Z',?_,h'⟩;rw[z2g,kf,show xu (vd (za (eC (.str "0:0")) (za (eC (.str "1")) (za (eC (.str "0:1")) (za (eC (.str "1:2:3:4")) (za (eC (.str "1:2:3:4:5")) (za (eC (.str "")) (za (eC (.str ":")) (za (eC (.str "01:1")) zj))))))))) Z s'=.ok (z1e,[]) s' from rfl,Rb];exact e
theorem kd{d:D}(hk:Kd d)(hn:∀n v,d=rD v->¬ Lot n v)(s:Sto):zx [d] s=.ok (.bl false) s:=by
 rcases z2W hk s with⟨n,v,e,L,_,_⟩ | ⟨h,_⟩;·exact absurd L (hn n v e)
 ·exact h
theorem z2N{xs:List D}(h:xs.length<=1):∀n v,D.tup xs=rD v->¬ Lot n v:=λn v e L=>by
 have e:xs=iL v:=by injection e
 have l1:=L.len;have l2:=L.sz;unfold Sz at l2;rw[e]at h;simp at h;omega
def z5k(v:List Int)(t:Str):List D:=[.lst (iL v),.tup [],.tup ((iL v).take 1),.tup [.int 0,.int 0],.non,.str t,.tup (.bl true::(iL v).drop 1)]
theorem z9H{v:List Int}{t:Str}{d:D}(h:d∈z5k v t)(s:Sto):zx [d] s=.ok (.bl false) s:=by
 have kr:∀x∈iL v,(tyD x).isSome=true:=λx hx=>by obtain⟨y,_,rfl⟩:=_L.mp hx;rfl
 simp only[z5k,_l,_af,_bm]at h;rcases h with rfl | rfl | rfl | rfl | rfl | rfl | rfl;·exact kd (d:=.lst (iL v)) rfl (λn v e=>by cases e) s
 ·exact kd (d:=.tup []) (λx hx=>by simp at hx) (z2N (by simp)) s
 ·exact kd (d:=.tup ((iL v).take 1)) (λx hx=>kr x (_Q hx)) (z2N (by rw[_aE];omega)) s
 ·refine kd (d:=.tup [.int 0,.int 0]) (λx hx=>by simp at hx;subst hx;rfl) (λn u e L=>?_) s;obtain⟨x,hx,h0⟩:=L.pos;have e:iL u=iL [0,0]:=by injection e.symm
  rw[z2T e]at hx;simp at hx;omega
 ·exact kd (d:=.non) rfl (λn v e=>by cases e) s
 ·exact kd (d:=.str t) rfl (λn v e=>by cases e) s
 ·refine kd (d:=.tup (.bl true::(iL v).drop 1)) (λx hx=>?_) (λn u e L=>?_) s
  ·rcases _l.mp hx with rfl | hx;·rfl
   ·exact kr x (_a3 hx)
  ·have e:(D.bl true::(iL v).drop 1)=iL u:=by injection e
   cases u with
   | nil=>cases e | cons y u=>cases e
def z67:D->Ev->Sto->R Fl:=λd Z s=>(wa 2 d Z s).bind λZ' s'=>(zM z04 (zM z0a (zM z0n (zM z0g (zM jg (zM jl jk)))))) Z' s'
theorem z61{n:Nat}{v:List Int}(h:z7g n 104 v):vv 3 (.str (tx v)):=z8Y (z5w h).1.asc
theorem z5K{n:Nat}{v:List Int}(h:z7g n 104 v)(s:Sto):zA [.int 0,.str (tx v)] s=.ok (rD v) s:=by
 obtain⟨r,e1,e2,_⟩:=z20 (.inl ⟨tx v,rfl,(z5w h).1⟩) s;rw[zao (z5w h).1,z9B h]at e2;cases e2;exact e1
structure En(ns:List Int)(l:Nat)(v:List Int)(Z:Ev):Prop where
 len:Z.length=7
 e0:Z[0]? = some (some (.scr (ns.map D.int)))
 e1:Z[1]? = some (some (.str (tx v)))
 e3:Z[3]? = some (some (.loc l))
 e4:Z[4]? = some (some (rD v))
section
variable {ns:List Int}{l n:Nat}{v:List Int}{Z:Ev}{s:Sto}(h:z7g n 104 v)(en:En ns l v Z)
include h en
theorem zdg:z0g Z s=.ok (.nx Z) s:=by
 rw[z0g,zaY (zc2 (z8i (xx ?_)) (z8i (xx ?_)))];·rfl
 ·rw[call2 (x:=.str (tx v)) (y:=.str (tx v)) (by rw[call2 (x:=.int 1) (y:=rD v) rfl (vr en.e4)];exact za6 h s) (vr en.e1)];exact z2A s (z61 h)
 ·rw[call2 (x:=rD v) (y:=rD v) (by rw[call2 (x:=.int 0) (y:=.str (tx v)) rfl (vr en.e1)];exact z5K h s) (vr en.e4)];exact z2A s (z36 v (by have:=h.le4.1;unfold cap;omega))
theorem zbo (hp:Pot s l):∃Z' s',xc s s' l/\En ns l v Z'/\jg Z s=.ok (.nx Z') s':=by
 obtain⟨t1,t2⟩:=z5w h;obtain⟨a,s1,ea,ha,d1⟩:=z4w hp t1 (by omega);obtain⟨b,s2,eb,hb,d2⟩:=z4w d1.pot t1 (by omega);have c3:(3:Nat)<=cap:=by decide
 have li:xu (vd (za (zf zG (za (zc 3) (za (zc 1) zj))) (za (zf zG (za (zc 3) (za (zc 1) zj))) (za (zc 1) zj)))) Z s=.ok ([a,b,.str (tx v)],[]) s2:=by
  rw[z2c,uI,zy,call2 (x:=.loc l) (y:=.str (tx v)) (vr en.e3) (vr en.e1),ea,Rb,zy,call2 (x:=.loc l) (y:=.str (tx v)) (vr en.e3) (vr en.e1),eb,Rb,zy,vr en.e1];simp only[xB,Rb,_c,_g,_A,Nat.reduceAdd,_f c3]
 obtain⟨Z',s',e,en',rfl⟩:=ji (all:=[a,b,.str (tx v)]) (body:=λd Z s=>(wa 5 d Z s).bind λZ' s'=>z0i Z' s') (λZ s1=>En ns l v Z/\s1=s2) [a,b,.str (tx v)] (λx hx Z s1 hI=>by
  obtain⟨E,rfl⟩:=hI;have th:Th x:=by
   simp only[_l,_af,_bm]at hx;rcases hx with rfl | rfl | rfl;·exact ha
   ·exact hb
   ·exact .inl ⟨_,rfl,t1⟩
  refine⟨Z.set 5 (some x),s1,?_,⟨by simp[E.len],gs (by decide) E.e0,gs (by decide) E.e1,gs (by decide) E.e3,gs (by decide) E.e4⟩,rfl⟩;rw[jW,Rb,z0i,zaY (z1S th (ga (by rw[E.len];decide)))];rfl) Z s2 ⟨en,rfl⟩;refine⟨Z',s',d1.trans d2,en',?_⟩;rw[jg,kf,li,Rb];exact e
theorem zby (hp:Pot s l):∃d s',d∈z5k v (tx v)/\jl Z s=.ok (.nx (Z.set 6 (some d))) s':=by
 have l4:=h.le4.1;obtain⟨r,s',e,a1,b1,d1⟩:=xa (f:=zc 3) (g:=eC (.int 7)) (far:=7) (Z:=Z) hp (by decide) (vn (by decide)) (vr en.e3) rfl;have hr:r.toNat<(z5k v (tx v)).length:=by simp[z5k];omega
 have ix:=uC (xs:=z5k v (tx v)) (d:=(z5k v (tx v))[r.toNat]) (s:=s') a1 (by simp[hr]);refine⟨(z5k v (tx v))[r.toNat],s',_ai hr,?_⟩;generalize (z5k v (tx v))[r.toNat]=d at ix;have c7:(7:Nat)<=cap:=by decide
 have c2:(2:Nat)<=cap:=by decide
 have c1:(1:Nat)<=cap:=by decide
 have i1:zf z3X (za (zc 4) zj) Z s=.ok (.lst (iL v)) s:=by
  rw[yG (x:=rD v) (vr en.e4)];simp[z3X,zU]
 have i3:eSl (zc 4) zO (yh (eC (.int 1))) Z s=.ok (.tup ((iL v).take 1)) s:=by
  rw[z6A,vr en.e4,Rb,uG,Rb,uX,z22];simp only[Rb];exact z4o (iL v) 1 s
 have i6:eSl (zc 4) (yh (eC (.int 1))) zO Z s=.ok (.tup ((iL v).drop 1)) s:=by
  rw[z6A,vr en.e4,Rb,uX,z22];simp only[Rb,uG];exact z57 (iL v) 1 s
 have i7:eOp xy (jM (za (eC (.bl true)) zj)) (eSl (zc 4) (yh (eC (.int 1))) zO) Z s=.ok (.tup (.bl true::(iL v).drop 1)) s:=by
  rw[op2 (x:=.tup [.bl true]) (y:=.tup ((iL v).drop 1)) rfl i6,z9z,_f (by simp only[_c,_g,_by,_R];unfold cap;omega)];rfl
 have li:vd (za (zf z3X (za (zc 4) zj)) (za (jM zj) (za (eSl (zc 4) zO (yh (eC (.int 1)))) (za (jM (za (eC (.int 0)) (za (eC (.int 0)) zj))) (za (eC .non) (za (zc 1) (za (eOp xy (jM (za (eC (.bl true)) zj)) (eSl (zc 4) (yh (eC (.int 1))) zO)) zj))))))) Z s=.ok (.lst (z5k v (tx v))) s:=by
  rw[uI,zy,i1,Rb,zy,show jM zj Z s=.ok (.tup []) s from rfl,Rb,zy,i3,Rb,zy,show jM (za (eC (.int 0)) (za (eC (.int 0)) zj)) Z s=.ok (.tup [.int 0,.int 0]) s from rfl,Rb,zy,z22,Rb,zy,vr en.e1,Rb,zy,i7];simp only[xB,Rb,_c,_g,_A,Nat.reduceAdd,_f c7];rfl
 rw[jl,zY,wD,li,Rb,e,Rb,ix];rfl
end
theorem zbg {Z:Ev} {s:Sto} {v:List Int} {t:Str} {d:D} (hd:d∈z5k v t) (h6:Z[6]? = some (some d)):jk Z s=.ok (.nx Z) s:=by
 rw[jk,zaY];·rfl
 ·refine xx ?_;rw[op2 (x:=.str "lot") (y:=.str "lot") (by rw[call2 (x:=.int 1) (y:=d) rfl (vr h6)];exact zbi (z9H hd s)) rfl];simp only[z5s];simp
theorem z4d (ns:List Int) (j:Nat) (Z:Ev) (s:Sto) (h:ShL ns Z):∃Z' s',z67 (.int (j:Int)) Z s=.ok (.nx Z') s'/\ShL ns Z':=by
 obtain⟨h7,h0⟩:=h;obtain⟨c,e1⟩:=z9p ns j s;obtain⟨p,e2⟩:=zbM c s;generalize hl:s.length=l at e2;have pt:Pot (s++[[.int p]]) l:=⟨p,by rw[<- hl];simp⟩;have f5:z04 (Z.set 2 (some (.int (j:Int)))) s=.ok (.nx ((Z.set 2 (some (.int (j:Int)))).set 3 (some (.loc l)))) (s++[[.int p]]):=by rw[z04,zY,yG (x:=.int c) (by rw[call2 (x:=.scr (ns.map D.int)) (y:=.int (j:Int)) (vr (gs (by decide) h0)) (vr (ga (by omega)))];exact e1),e2,Rb]
 generalize hZ2:(Z.set 2 (some (.int (j:Int)))).set 3 (some (.loc l))=Z2 at f5;have L2':Z2.length=7:=by rw[<- hZ2];simp[h7]
 have a0:Z2[0]? = some (some (.scr (ns.map D.int))):=by rw[<- hZ2];exact gs (by decide) (gs (by decide) h0)
 have a3:Z2[3]? = some (some (.loc l)):=by rw[<- hZ2];exact ga (by simp[h7])
 obtain⟨n,v,s6,e6,hv,d6⟩:=zbW pt;have f6:z0a Z2 (s++[[.int p]])=.ok (.nx (Z2.set 4 (some (rD v)))) s6:=by rw[z0a,zY,yG (x:=.loc l) (vr a3),e6,Rb]
 have f7:=zcO hv (Z:=Z2.set 4 (some (rD v))) s6 (ga (by omega));have en:En ns l v ((Z2.set 4 (some (rD v))).set 1 (some (.str (tx v)))):=⟨by simp[L2'],gs (by decide) (gs (by decide) a0),ga (by simp[L2']),gs (by decide) (gs (by decide) a3),gs (by decide) (ga (by omega))⟩;generalize (Z2.set 4 (some (rD v))).set 1 (some (.str (tx v)))=Z3 at f7 en;have f8:=zdg (s:=s6) hv en;obtain⟨Z4,s10,d10,en4,f10⟩:=zbo hv en d6.pot;obtain⟨d,s13,hd,f13⟩:=zby hv en4 d10.pot;have f14:=zbg (Z:=Z4.set 6 (some d)) (s:=s13) hd (ga (by rw[en4.len];decide));refine⟨Z4.set 6 (some d),s13,?_,by simp[en4.len],gs (by decide) en4.e0⟩;rw[z67,jW,Rb];rw[zn f5,zn f6,zn f7,zn f8,zn f10,zn f13];exact f14
theorem z90(n:Nat)(b:Nat):∃k:Nat,(if (if (b:Int)<(n:Int) then (b:Int) else n) > 1 then (if (b:Int)<(n:Int) then (b:Int) else n) else 1)=(k:Int)/\k<=b+1:=by
 by_cases h:(b:Int)<n
 ·rw[_f h];by_cases h2:(b:Int) > 1;·exact⟨b,by rw[_f h2],by omega⟩
  ·exact⟨1,by rw[_o h2];rfl,by omega⟩
 ·rw[_o h];by_cases h2:(n:Int) > 1;·exact⟨n,by rw[_f h2],by omega⟩
  ·exact⟨1,by rw[_o h2];rfl,by omega⟩
theorem zcJ (ns:List Int) (k:Nat) (Z:Ev) (s:Sto) (h:ShL ns Z):∃Z' s',yJ [] (yL k) z67 (yL k) Z s=.ok (.nx Z') s':=by
 obtain⟨Z',s',e,_⟩:=ji (all:=yL k) (body:=z67) (λZ _=>ShL ns Z) (yL k) (λx hx Z s hI=>by
  obtain⟨j,_,rfl⟩:=z3S hx;exact z4d ns j Z s hI) Z s h;exact⟨Z',s',e⟩
theorem z6m:∀ns:List Int,ns.length<=63->∃s',z8f [.scr (ns.map D.int)] []=.ok (.bl true) s':=λns hn=>by
 obtain⟨k,ek,hk⟩:=z90 ns.length 25;rw[show ((25:Nat):Int)=25 from rfl]at ek;have st:zt ["_law_script","_law_text","_law_k","_law_pot_here","_law_lot_here","_law_thing","_law_bad"] [.scr (ns.map D.int)]=[some (.scr (ns.map D.int)),none,none,none,none,none,none]:=rfl;obtain⟨Z1,e1,h1⟩:=first (ns:=ns) (Z:=[some (.scr (ns.map D.int)),none,none,none,none,none,none]) (s:=[]) ⟨rfl,rfl⟩;have key:∃Z' s',z2o Z1 []=.ok (.nx Z') s':=by
  obtain⟨Z',s',e⟩:=zcJ ns k Z1 [] h1;refine⟨Z',s',?_⟩;rw[z2o,kf,z6X (n:=k) (s1:=[]) (by omega) (by simp only[qd,zy,xB,z22,vr h1.2,Rb,wb,zU,_R,z6C,z6i,ek]),Rb];exact e
 obtain⟨Z',s',e⟩:=key;refine⟨s',?_⟩;have la:z3s Z' s'=.ok (.rt (.bl true)) s':=by simp
 unfold z8f Mof z6K;rw[_f (by rfl),st,zn e1,zn e,la]
end K04
namespace K04
open L2 Dd Pg
theorem zb1:∀x∈rsX,x∈askQ.xs:=by decide +kernel
theorem zdh:∀x∈csX,x∈askQ.xs:=by decide +kernel
theorem zdj:∀x∈rsX,∀y∈csX,((x,y),x==y)∈askQ.ps:=by decide +kernel
theorem zde:("DrawError":Str)∈askQ.xs:=by decide +kernel
theorem zds:∀x∈rsX,((x,("DrawError":Str)),true)∈askQ.ps:=by decide +kernel
theorem all_mk {P:Program} {w:World} {K:W.Frag} {h:Heap} {mg:Str->Option Value} {fa:Addr} (X:K.In h) (G:h.Ns mainGlobals mg) (hfa:mg "law"=some (.ref fa)) (e:z4C askQ K=valS askQ w)  (lo_BETWEEN:∃t,mg "BETWEEN"=some (.str ":" t)) (lo_FIGURES:∃t,mg "FIGURES"=some (.str "0123456789" t)) : ∃fd:FuncData,(∀(s:Shared) (v:Value),BindsTo s fd ⟨[v],[]⟩ [("_law_script",v)])/\∀base:Heap,K.In base->base.Ns mainGlobals mg->z0P P w K mg base CX0 7 fa fd ["_law_script"] (z88 K):=by
 obtain⟨f0,d0,a0,F0⟩:=yy X G e 0 rfl;obtain⟨f1,d1,a1,F1⟩:=yy X G e 1 rfl;obtain⟨f2,d2,a2,F2⟩:=yy X G e 2 rfl;obtain⟨f3,d3,a3,F3⟩:=yy X G e 3 rfl;obtain⟨f4,d4,a4,F4⟩:=yy X G e 4 rfl;obtain⟨f5,d5,a5,F5⟩:=yy X G e 5 rfl;obtain⟨f6,d6,a6,F6⟩:=yy X G e 6 rfl;obtain⟨f7,d7,a7,F7⟩:=yy X G e 7 rfl;obtain⟨f8,d8,a8,F8⟩:=yy X G e 8 rfl;obtain⟨f9,d9,a9,F9⟩:=yy X G e 9 rfl;obtain⟨f10,d10,a10,F10⟩:=yy X G e 10 rfl;obtain⟨f11,d11,a11,F11⟩:=yy X G e 11 rfl;obtain⟨f12,d12,a12,F12⟩:=yy X G e 12 rfl;obtain⟨f13,d13,a13,F13⟩:=yy X G e 13 rfl;obtain⟨f14,d14,a14,F14⟩:=yy X G e 14 rfl;obtain⟨f15,d15,a15,F15⟩:=yy X G e 15 rfl;obtain⟨f16,d16,a16,F16⟩:=yy X G e 16 rfl;obtain⟨f17,d17,a17,F17⟩:=yy X G e 17 rfl;obtain⟨f18,d18,a18,F18⟩:=yy X G e 18 rfl;obtain⟨f19,d19,a19,F19⟩:=yy X G e 19 rfl;obtain⟨f20,d20,a20,F20⟩:=yy X G e 20 rfl;obtain⟨f21,d21,a21,F21⟩:=yy X G e 21 rfl;obtain⟨f22,d22,a22,F22⟩:=yy X G e 22 rfl;have e0:=hfa.symm.trans a22;cases e0;obtain⟨oc,od,kV,doc,pm,an,cdv,ct,osl,rfl,hl,hc⟩:=F22.ex;have T:Txt mg:=⟨lo_BETWEEN,lo_FIGURES,z70 X G e 0 rfl,z70 X G e 1 rfl,wE X G e 0 rfl,wE X G e 1 rfl,wE X G e 2 rfl,wE X G e 3 rfl,wE X G e 4 rfl,wE X G e 5 rfl,wE X G e 6 rfl,wE X G e 7 rfl,wE X G e 8 rfl,wE X G e 9 rfl,wE X G e 10 rfl,wE X G e 11 rfl,wE X G e 12 rfl⟩;have GG:∀(x:Str) (v:Value),W.nsIn K mainGlobals x=some (some v)->mg x=some v:=λx v h=>W.mg_of X G h;have E_NoLot:z8L K mg "NoLot":=z4e GG (z3z e "NoLot" (zb1 _ (by decide +kernel)));have E_NoText:z8L K mg "NoText":=z4e GG (z3z e "NoText" (zb1 _ (by decide +kernel)));have FM:z1b ⟨mg,K⟩ rsX csX:=z4q GG (λx hx=>z3z e x (zb1 x hx)) (λx hx=>z3z e x (zdh x hx)) (λx hx y hy=>by rw[zaP e x y (x==y) (zdj x hx y hy)];rfl);have KS:∀c∈rsX,zaW K mg c "DrawError":=λx hx=>z8z GG (z3z e x (zb1 x hx)) (z3z e "DrawError" zde) (by rw[zaP e x "DrawError" true (zds x hx)];rfl);refine⟨W.fnOf "law" "law" (uU kD) (xz kD) (zh kD) .none kV doc pm an cdv ct,λs v=>.of_eq rfl,λbase _ _=>?_⟩;have H0:=z1K (P:=P) (w:=w) (base:=base) T F0 a0;have H1:=z1A (P:=P) (w:=w) (base:=base) T F1 a1;have H2:=ki (P:=P) (w:=w) (base:=base) T F2 a2;have H3:=jL (P:=P) (w:=w) (base:=base) T F3 a3;have H4:=z0L (P:=P) (w:=w) (base:=base) T F4 a4;have H5:=qY (P:=P) (w:=w) (base:=base) T F5 a5;have H6:=z1Q (P:=P) (w:=w) (base:=base) T F6 a6;have H7:=kT (P:=P) (w:=w) (base:=base) T F7 a7;have H8:=kh (P:=P) (w:=w) (base:=base) T F8 a8;have H9:=qM (P:=P) (w:=w) (base:=base) T F9 a9 FM;have H10:=kn (P:=P) (w:=w) (base:=base) T F10 a10 H0;have H11:=z0U (P:=P) (w:=w) (base:=base) T F11 a11 H7;have H12:=jO (P:=P) (w:=w) (base:=base) T F12 a12 H8;have H13:=z1z (P:=P) (w:=w) (base:=base) T F13 a13 H7;have H14:=z0d (P:=P) (w:=w) (base:=base) T F14 a14 H8;have H15:=z3y (P:=P) (w:=w) (base:=base) T F15 a15 H1 H10;have H16:=z17 (P:=P) (w:=w) (base:=base) T F16 a16 H12;have H17:=uD (P:=P) (w:=w) (base:=base) T F17 a17 H7 H13;have HX18:=z0o (P:=P) (w:=w) (base:=base) T F18 a18 E_NoLot H15;have HX19:=z4L (P:=P) (w:=w) (base:=base) T F19 a19 E_NoText H3 H4 H15;have HX20:=z1n (P:=P) (w:=w) (base:=base) T F20 a20 H2 HX18;have H21:=z0k (P:=P) (w:=w) (base:=base) T F21 a21 KS H9 HX19 HX20;have H22:=z3u (P:=P) (w:=w) (base:=base) T F22 a22 H5 H6 H7 H11 H14 H16 H17 H21;exact zaI (x:="law") H22 z6m
theorem boot_:∀w:World,(W.fencedOpening treeTable PySem.Challenge.pw_drawndown_k04_lots_written_and_read w 9212).map (λs=>(s.heap,s.gens,s.drawn,s.toks))=some (W.boot_heap w.params,Array.mk [],W.boot_drawn,W.boot_toks):= W.boot_open (by kernel_rfl) (by decide) (λs=>by kernel_rfl)
theorem left_:W.LeftO PySem.Challenge.pw_drawndown_k04_lots_written_and_read qv looseQ xtQ (obsS askQ) (valS askQ) 9212:=z3O boot_ (λw os=>z3v (f:=λs=>(seenQ s,obsS askQ s)) (zcP w) (bsz w) (z5l (z5N w os) (z65 w os)))
end K04
open PySem.W
set_option maxRecDepth 100000 in
set_option maxHeartbeats 0 in
theorem PySem.Challenge.cw_drawndown_k04_lots_written_and_read_holds : PySem.Challenge.rw_drawndown_k04_lots_written_and_read.Holds := by
  w_on; o_law
  refine holds_open (q := K04.qv) (loose := K04.looseQ) (Xt := K04.xtQ) (XP := XL K04.qv K04.lvQ) (Yf := Dd.obsS K04.askQ) (Ya := Dd.valS K04.askQ) (YP := Dd.saysS K04.askQ) (N := 9212) K04.left_ (Dd.z7p K04.askQ) (Dd.z3P K04.askQ) (λs e => xl_of s (Bool.and_eq_true_iff.mp e).1) XL.keeps (by rfl) (by rfl) (by rfl) (λs e => recFacts_of (Bool.and_eq_true_iff.mp e).2) (by rfl) (by first | assumption | decide +kernel) (by decide +kernel) ⟨rfl, rfl, rfl, rfl, rfl, by decide +kernel⟩ ?hw ?hc
  (case hw => w_witness2)
  refine Dd.walkY (l := PySem.Challenge.rw_drawndown_k04_lots_written_and_read) (n := 63) (k := 7) (x := "_law_script") rfl (by decide) (by decide) rfl ⟨rfl, by decide, by decide, rfl⟩ ?F
  case F =>
    intro w mg fa h Yy G hmg XP
    obtain⟨K, KX, e⟩ := Yy
    have lo_BETWEEN : ∃t, mg "BETWEEN" = some (.str ":" t) := by
      obtain⟨v, h1, h2⟩ := XP.2.val ("BETWEEN", .str ":") (by simp[K04.lvQ])
      exact Dd.z0W h1 h2
    have lo_FIGURES : ∃t, mg "FIGURES" = some (.str "0123456789" t) := by
      obtain⟨v, h1, h2⟩ := XP.2.val ("FIGURES", .str "0123456789") (by simp[K04.lvQ])
      exact Dd.z0W h1 h2
    exact⟨K, KX, K04.all_mk KX G hmg e lo_BETWEEN lo_FIGURES⟩
