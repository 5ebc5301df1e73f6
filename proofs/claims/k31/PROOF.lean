import PyProof.Rows.All
import Wide.All
import OpenK.AllK
import Wide.FinOn
import Lean
import PyProof.EqAt
import PyProof.EqKinds
import PyProof.TupleCall
import PyProof.ExcArgsOwn
import PyProof.ExcAttrAll.ValueError
import PyProof.ListMulRoad
import PyProof.Rows.Range3
import PySem.Challenge.RW_drawndown_k31_steps_counted
set_option Elab.async false
set_option linter.all false
set_option maxRecDepth 100000
set_option maxHeartbeats 1000000
set_option exponentiation.threshold 5000
open PySem PySem.Spec PyProof.Rows
abbrev _a:=@wpAny_bind
abbrev _b:=@Heap.get?_push_of_some
abbrev _c:=@List.getElem?_eq_some_iff
abbrev _d:=@if_pos
abbrev _e:=@List.getElem?_cons_zero
abbrev _f:=@List.getElem?_eq_getElem
abbrev _g:=@wpAny_pure
abbrev _h:=@List.getElem?_cons_succ
abbrev _i:=@List.length_cons
abbrev _j:=@Nat.le_refl
abbrev _k:=@List.size_toArray
abbrev _l:=@List.length_nil
abbrev _m:=@Heap.lt_size
abbrev _n:=@Heap.get?_push_size
abbrev _o:=@if_neg
abbrev _p:=@Option.some.injEq
abbrev _q:=@Nat.lt_of_lt_of_le
abbrev _r:=@List.mem_cons
abbrev _s:=@List.getD_eq_getElem?_getD
abbrev _t:=@List.mem_cons_of_mem
abbrev _u:=@Nat.ne_of_lt
abbrev _v:=@List.getElem?_append_left
abbrev _w:=@List.map_cons
abbrev _x:=@wpAny_mono
abbrev _y:=@List.mem_of_getElem?
abbrev _z:=@List.mem_append_right
abbrev _A:=@if_true
abbrev _B:=@PyProof.Rows.slot_tuple_getitem
abbrev _C:=@wpAny_field
abbrev _D:=@Bool.and_eq_true
abbrev _E:=@List.mem_iff_getElem
abbrev _F:=@List.mem_cons_self
abbrev _G:=@Option.bind_some
abbrev _H:=@List.lookup_cons
abbrev _I:=@Option.some.inj
abbrev _J:=@List.length_map
abbrev _K:=@List.getElem?_set_ne
abbrev _L:=@List.all_eq_true
abbrev _M:=@wpAny_newObj_type
abbrev _N:=@Bool.false_ne_true
abbrev _O:=@wpAny_callSpecial?_slot
abbrev _P:=@List.getElem?_set_self
abbrev _Q:=@wpAny_setField_rec
abbrev _R:=@Nat.le_trans
abbrev _S:=@PySem.mem_of_lookup
abbrev _T:=@Option.map_some
abbrev _U:=@wpAny_call_entry
abbrev _V:=@List.getElem_mem
abbrev _W:=@Option.map_eq_some_iff
abbrev _X:=@wpAny_loadPart'
abbrev _Y:=@List.replicate_succ
abbrev _Z:=@List.getElem?_map
abbrev _aa:=@Heap.size_push
abbrev _ab:=@List.set_cons_zero
abbrev _ac:=@List.set_cons_succ
abbrev _ad:=@Nat.pow_le_pow_right
abbrev _ae:=@decide_eq_false
abbrev _af:=@Nat.lt_irrefl
abbrev _ag:=@List.mem_append
abbrev _ah:=@Classical.byContradiction
abbrev _ai:=@Nat.lt_succ_of_lt
abbrev _aj:=@Nat.zero_le
abbrev _ak:=@wpAny_loadPart_at
abbrev _al:=@List.getElem?_eq_none
abbrev _am:=@congrArg
abbrev _an:=@List.getElem?_take_of_lt
abbrev _ao:=@List.nil_append
abbrev _ap:=@List.mem_map
abbrev _aq:=@PassesOwn.never
abbrev _ar:=@wpAny_Call_Name_kw
abbrev _as:=@beq_iff_eq
abbrev _at:=@wpAny_holding
abbrev _au:=@sizeLine_eq
abbrev _av:=@List.drop_eq_getElem_cons
abbrev _aw:=@List.set_append_right
abbrev _ax:=@List.not_mem_nil
abbrev _ay:=@Nat.zero_add
abbrev _az:=@List.mem_range
abbrev _aA:=@wpAny_truthy_bool
abbrev _aB:=@List.flatten_cons
abbrev _aC:=@List.append_assoc
abbrev _aD:=@List.length_eq_zero_iff
abbrev _aE:=@Ne.symm
abbrev _aF:=@PyProof.Rows.callWith_type1
abbrev _aG:=@List.getElem_inj
abbrev _aH:=@Option.getD_some
abbrev _aI:=@List.ext_getElem
abbrev _aJ:=@List.getElem?_append_right
abbrev _aK:=@List.length_append
abbrev _aL:=@F.slot_tuple_iterator_next
abbrev _aM:=@wpAny_seqItems
abbrev _aN:=@wpAny_passesOwn
abbrev _aO:=@List.foldl_cons
abbrev _aP:=@Int.emod_nonneg
abbrev _aQ:=@List.mem_append_left
abbrev _aR:=@Int.toNat_natCast
abbrev _aS:=@List.mem_of_mem_take
abbrev _aT:=@List.reverse_cons
abbrev _aU:=@decide_eq_true_eq
abbrev _aV:=@wpAny_comprehension_free
abbrev _aW:=@Prod.mk.injEq
abbrev _aX:=@List.filterMap_cons
abbrev _aY:=@Array.length_toList
abbrev _aZ:=@W.kia_one
abbrev _a0:=@List.getElem?_replicate
abbrev _a1:=@Nat.lt_succ_self
abbrev _a2:=@Heap.get?_update_other
abbrev _a3:=@call_meets
abbrev _a4:=@SeqAt.canLay_of_shaped
abbrev _a5:=@List.mem_singleton
abbrev _a6:=@Int.emod_lt_of_pos
abbrev _a7:=@Int.lt_of_le_of_lt
abbrev _a8:=@List.append_nil
abbrev _a9:=@F.slot_int_rmul
abbrev _ba:=@W.kia_tup
abbrev _bb:=@F.slot_enumerate_next
abbrev _bc:=@Function.comp_def
abbrev _bd:=@Calls.evalArgs_plain
abbrev _be:=@PySem.F.excBase_ValueError
abbrev _bf:=@Array.getElem?_eq_some_iff
abbrev _bg:=@List.map_map
abbrev _bh:=@List.mem_reverse
abbrev _bi:=@wpAny_binaryOp_repeat_ref
abbrev _bj:=@List.mem_or_eq_of_mem_set
abbrev _bk:=@Calls.call_function_entry
abbrev _bl:=@Heap.SameBut.update
abbrev _bm:=@List.map_congr_left
abbrev _bn:=@wpAny_standAt
abbrev _bo:=@Option.isSome_iff_exists
abbrev _bp:=@PySem.F.args_tuple_add_2
abbrev _bq:=@if_false
abbrev _br:=@wpAny_newList
abbrev _bs:=@List.of_mem_zip
abbrev _bt:=@List.lookup_append
abbrev _bu:=@Obj.data_mapFields
abbrev _bv:=@Int.lt_of_lt_of_le
abbrev _bw:=@PySem.F.entry_tuple_add
abbrev _bx:=@PySem.F.plainAttrs_list
abbrev _by:=@Option.bind_eq_some_iff
abbrev _bz:=@Nat.le_succ
abbrev _bA:=@List.set_eq_take_append_cons_drop
abbrev _bB:=@PySem.F.slot_tuple_add
abbrev _bC:=@subscriptTail_builtinR
abbrev _bD:=@wpAny_Call_method_late
abbrev _bE:=@Calls.callWith_builtin
abbrev _bF:=@decide_eq_true
abbrev _bG:=@List.take_of_length_le
abbrev _bH:=@Heap.get?_push_ne
abbrev _bI:=@Heap.get?_update_self
abbrev _bJ:=@F.typeOf_object_class
abbrev _bK:=@Int.mul_ediv_add_emod
abbrev _bL:=@wpAny_eqBool_int
abbrev _bM:=@List.length_take
abbrev _bN:=@List.length_drop
abbrev _bO:=@typeIs_int
abbrev _bP:=@Array.eq_empty_of_size_eq_zero
abbrev _bQ:=@F.slot_tuple_mul
abbrev _bR:=@List.all_cons
abbrev _bS:=@listUpdate_at
abbrev _bT:=@wpAny_updateSeq_pair
abbrev _bU:=@Int.natAbs_of_nonneg
abbrev _bV:=@wpAny_execs_nil
abbrev _bW:=@List.nodup_cons
abbrev _bX:=@pushCells_keeps
abbrev _bZ:=@F.slot_zip_next
abbrev _b0:=@List.cons.injEq
abbrev _b1:=@entry_tuple_getitem
abbrev _b2:=@List.length_pos_iff
abbrev _b3:=@Nat.ne_of_gt
abbrev _b4:=@wpAny_typeOf
abbrev _b6:=@decide_false
abbrev _b8:=@Calls.Constant_str
abbrev _ca:=@assignInOrder_cons
abbrev _cb:=@wpAny_rule
abbrev _cc:=@List.mem_filterMap
abbrev _ce:=@slicePart_none
abbrev _cf:=@args_tuple_getitem
abbrev _cg:=@Heap.IsSliceOf.new
abbrev _ch:=@wpAny_setField
abbrev _ci:=@wpAny_newTuple
abbrev _cj:=@List.getElem_idxOf
abbrev _ck:=@Nat.not_lt
abbrev _cm:=@or_false
abbrev _cp:=@wpAny_assign_Name
abbrev _cq:=@List.take_sublist
abbrev _cr:=@wpAny_sequenceKey
abbrev _cs:=@slot_list_getitem
abbrev _ct:=@F.args_int_rmul_2
abbrev _cu:=@Nat.le_of_succ_le
abbrev _cv:=@Int.le_refl
abbrev _cw:=@decide_true
abbrev _cx:=@evalPart_none
abbrev _cz:=@wpAny_attempt
abbrev _cA:=@wpAny_onRaise
abbrev _cD:=@List.map_take
abbrev _cE:=@List.map_drop
abbrev _cF:=@W.cellsFrom_some
abbrev _cG:=@noFill_tuple_add
abbrev _cH:=@Option.getD_none
abbrev _cI:=@F.slot_int_index
abbrev _cJ:=@F.entry_int_rmul
abbrev _cK:=@List.prefix_refl
abbrev _cL:=@List.zipIdx_cons
abbrev _cM:=@Nat.le_add_right
abbrev _cO:=@List.range'_succ
abbrev _cP:=@List.mem_toArray
abbrev _cS:=@Heap.size_update
abbrev _cT:=@List.filter_cons
abbrev _cV:=@Nat.le_of_lt
abbrev _cW:=@codeAny_mono
abbrev _cZ:=@listItems_at
noncomputable section
namespace Dd
def dArgs(s:Stmt):Arguments:=match s with
 | .FunctionDef _ a _ _ _ _ _ _ _ _=>a | _=>{posonlyargs:=[],args:=[],vararg:=none,kwonlyargs:=[],kw_defaults:=[],kwarg:=none,defaults:=[]}
def zgs(s:Stmt):List Stmt:=match s with
 | .FunctionDef _ _ b _ _ _ _ _ _ _=>b | _=>[]
def zdc(s:Stmt):Scope:=match s with
 | .FunctionDef _ _ _ _ _ _ sc _ _ _=>sc | _=>{kind:=.function,names:=[],isGenerator:=false,isCoroutine:=false}
def z6w(h:Heap)(a:Addr):W.Frag:=match h.get? a with | some o=>[(a,o)] | none=>[]
def zjq(h:Heap)(g:W.Frag)(x:Str):W.Frag:=match W.nsIn g mainGlobals x with
 | some (some (.ref f))=>z6w h f++(match h.get? f with
   | some ⟨_,_,.func fd,_⟩=>(match fd.code with | .ref c=>z6w h c | _=>[]) | some ⟨_,_,.cls cd,_⟩=>z6w h cd.ns | _=>[]) | _=>[]
def gat(h:Heap)(ns:List Str):W.Frag:=z6w h mainGlobals++ns.flatMap (zjq h (z6w h mainGlobals))
abbrev FV:=Str×Str×Arguments×FuncBody×Scope×Addr×List (Str×Addr)×Value×Addr×Bool×Bool
def zf0(K:W.Frag)(x:Str):Option FV:=match W.nsIn K mainGlobals x with
 | some (some (.ref f))=>(match K.lookup f with
   | some ⟨_,_,.func fd,_⟩=>some (fd.name,fd.qualname,fd.params,fd.body,fd.scope,fd.globals,fd.closure,fd.defaults,fd.builtins,W.codeIn K fd.code fd.qualname,W.keepIn K (.ref f)) | _=>none) | _=>none
def zia(x:Str)(st:Stmt):Option FV:=some (x,x,dArgs st,.stmts (zgs st),zdc st,mainGlobals,[],.none,builtinsNs,true,true)
def zeu(K:W.Frag)(x:Str):Bool:=match W.nsIn K mainGlobals x with | some none=>true | _=>false
def zft(K:W.Frag)(x:Str):Option Int:=match W.nsIn K mainGlobals x with | some (some (.int i _))=>some i | _=>none
def sameRef:Value->Option (Option Value)->Bool
 | .ref f,some (some (.ref g))=>f==g | _,_=>false
def z66:Value->Option Str
 | .str k _=>some k | _=>none
def z1S:Value->Bool
 | .type c=>c=="dict" | _=>false
def z2H(K:W.Frag):List DictEntry->List Str->List (Int×Option Str×Bool)
 | e::es,y::ys=>(e.hash,z66 e.key,sameRef e.val (W.nsIn K mainGlobals y))::z2H K es ys | [],[]=>[] | _,_=>[(0,none,false)]
def zaw(K:W.Frag)(x:Str)(ys:List Str):Option (Bool×Bool×Bool×Bool×List (Int×Option Str×Bool)):=match W.nsIn K mainGlobals x with
 | some (some (.ref a))=>(match K.lookup a with
   | some ⟨c,d,.dict es _,sl⟩=>some (z1S c,d.isNone,sl.size==0,a==sysModules,z2H K es.toList ys) | _=>none) | _=>none
def zg3(w:World)(tb:List (Str×Str)):Option (Bool×Bool×Bool×Bool×List (Int×Option Str×Bool)):=some (true,true,true,false,tb.map fun p=>(PyData.keyHash w.params p.1,some p.1,true))
def zh4:List Value->Option (List Int)
 | []=>some [] | .int i _::r=>(zh4 r).map (i::·) | _=>none
def zbJ:Value->Bool
 | .type c=>c=="tuple" | _=>false
def zhW(K:W.Frag)(x:Str):Option (Bool×Option (List Int)):=match W.nsIn K mainGlobals x with
 | some (some (.ref a))=>(match K.lookup a with
   | some ⟨c,_,.seq its _,_⟩=>some (zbJ c,zh4 its.toList) | _=>none) | _=>none
def bmV:List Value:=[.type "ValueError",.type "Exception",.type "BaseException",.type "object"]
def z2d(K:W.Frag)(C:Addr):Bool:=match K.lookup C with | some ⟨.type t,_,.cls _,_⟩=>t=="type" | _=>false
def z3N(K:W.Frag)(x:Str):Bool:=match W.nsIn K mainGlobals x with
 | some (some (.ref C))=>W.excIn K C bmV "ValueError.__new__"&&(W.findIn K (.ref C) "__getattribute__"==some (some (.builtin "BaseException.__getattribute__"))&&(W.findIn K (.ref C) "__getattr__"==some none && (W.findIn K (.ref C) "__class__"==some (some (.builtin "object.__class__"))&&(W.mroIn K C (.type "object")==some true&&(W.mroIn K C (.type "BaseException")==some true&&(z2d K C&&W.kitOne K (.ref C) (.type "ValueError")==some true)))))) | _=>false
def z3e(K:W.Frag)(x y:Str):Option (Option Bool×Option Bool):=match W.nsIn K mainGlobals x,W.nsIn K mainGlobals y with
 | some (some (.ref C)),some (some (.ref D))=>some (W.mroIn K C (.ref D),W.kitOne K (.ref C) (.ref D)) | _,_=>none
abbrev Obs:=List (Option FV)×List Bool×List (Option Int)×List (Option (Bool×Bool×Bool×Bool×List (Int×Option Str×Bool)))×List (Option (Bool×Option (List Int)))×List Bool×List (Option (Option Bool×Option Bool))
structure Ask where
 fs:List (Str×Stmt)
 bs:List Str
 cs:List (Str×Int)
 ts:List (Str×List (Str×Str))
 us:List (Str×List Int)
 xs:List Str
 ps:List ((Str×Str)×Bool)
def z8K(q:Ask)(K:W.Frag):Obs:=(q.fs.map fun p=>zf0 K p.1,q.bs.map (zeu K),q.cs.map fun p=>zft K p.1,q.ts.map (fun p=>zaw K p.1 (p.2.map (·.2))),q.us.map (fun p=>zhW K p.1),q.xs.map (z3N K),q.ps.map fun p=>z3e K p.1.1 p.1.2)
def obsS(q:Ask)(s:Shared):Obs:=z8K q (gat s.heap (q.fs.map (·.1)++q.ts.map (·.1)++q.us.map (·.1)++q.xs))
def valS(q:Ask)(w:World):Obs:=(q.fs.map fun p=>zia p.1 p.2,q.bs.map fun _=>true,q.cs.map fun p=>some p.2,q.ts.map (fun p=>zg3 w p.2),q.us.map (fun p=>some (true,some p.2)),q.xs.map fun _=>true,q.ps.map fun p=>some (some p.2,some p.2))
def z2h(tb:String->Option Builtin)(p:Program)(w:World)(n₀:Nat)(ann:Option Value):Nat->W.SharedT->Thread->Option W.SharedT
 | 0,_,_=>none | n+1,s,t=>match W.through t with
  | true=>some s | false=>match W.stepOk n₀ ann t with
   | false=>none | true=>match W.stepT (denote tb) p w s t with
    | some (s',t')=>z2h tb p w n₀ ann n s' t' | none=>none
def zgf(l:List Obj):W.BT×Nat:=l.foldl (fun a o=>(a.1.ins a.2 o,a.2+1)) (W.BT.nil,0)
def zg0(P:Params):W.BT:=(zgf (W.boot_heap P).objs.toList).1
end Dd
namespace K31
open Dd
def top(i:Nat):Stmt:=PySem.Challenge.pw_drawndown_k31_steps_counted.main.body.getD i (.Pass ⟨0,0,0,0⟩)
abbrev ku:Stmt:=top 22
abbrev kj:Stmt:=top 24
abbrev xh:Stmt:=top 30
abbrev ut:Stmt:=top 31
abbrev z0q:Stmt:=top 32
abbrev z0d:Stmt:=top 38
abbrev z4w:Stmt:=top 44
abbrev vH:Stmt:=top 51
abbrev ky:Stmt:=top 52
abbrev ju:Stmt:=top 53
abbrev uS:Stmt:=top 55
abbrev qT:Stmt:=top 56
abbrev uP:Stmt:=top 57
abbrev qw:Stmt:=top 60
abbrev vF:Stmt:=top 64
abbrev uN:Stmt:=top 23
abbrev z0n:Stmt:=top 33
abbrev kc:Stmt:=top 34
abbrev z1H:Stmt:=top 35
abbrev z0p:Stmt:=top 36
abbrev vW:Stmt:=top 39
abbrev kr:Stmt:=top 54
abbrev kf:Stmt:=top 58
abbrev vN:Stmt:=top 59
abbrev uq:Stmt:=top 61
abbrev kn:Stmt:=top 62
abbrev vT:Stmt:=top 65
abbrev z2w:Stmt:=top 26
abbrev kq:Stmt:=top 43
abbrev jg:Stmt:=top 63
abbrev qB:Stmt:=top 67
abbrev uQ:Stmt:=top 27
abbrev qW:Stmt:=top 28
abbrev yB:Stmt:=top 40
abbrev js:Stmt:=top 41
abbrev z6u:Stmt:=top 42
abbrev zaD:Stmt:=top 45
abbrev qp:Stmt:=top 47
abbrev qk:Stmt:=top 49
abbrev ke:Stmt:=top 48
abbrev qU:Stmt:=top 66
abbrev z37:Stmt:=top 68
def z4z:List (Str×Str):=[("next","by_next"),("least","by_least"),("all","by_all"),("turn","by_turn")]
def askQ:Ask:=⟨[(("is_whole":Str),ku), (("has_size":Str),kj), (("greatest_and_others":Str),xh), (("least_place":Str),ut), (("all_but":Str),z0q), (("is_rule":Str),z0d), (("moved":Str),z4w), (("_law_cell_at":Str),vH), (("_law_pot":Str),ky), (("_law_take":Str),ju), (("_law_rules":Str),uS), (("_law_step":Str),qT), (("_law_ended":Str),uP), (("_law_whole":Str),qw), (("_law_kind_of":Str),vF), (("are_wholes":Str),uN), (("by_next":Str),z0n), (("by_least":Str),kc), (("by_all":Str),z1H), (("by_turn":Str),z0p), (("want_rule":Str),vW), (("_law_lot":Str),kr), (("_law_run":Str),kf), (("_law_no_rule":Str),vN), (("_law_is_lot":Str),uq), (("_law_odd":Str),kn), (("_law_same":Str),vT), (("is_lot":Str),z2w), (("division":Str),kq), (("_law_bent":Str),jg), (("_law_alike":Str),qB), (("want_lot":Str),uQ), (("has_ended":Str),qW), (("want_rule_and_lot":Str),yB), (("want_step":Str),js), (("step":Str),z6u), (("run":Str),zaD), (("many_steps":Str),qp), (("common_end":Str),qk), (("by_steps":Str),ke), (("_law_told":Str),qU), (("law":Str),z37)], [("ValueError":Str),("all":Str),("bool":Str),("enumerate":Str),("int":Str),("isinstance":Str),("len":Str),("list":Str),("max":Str),("min":Str),("range":Str),("sorted":Str),("str":Str),("tuple":Str),("zip":Str)], [(("LEAST_SIZE":Str),(2:Int)),(("MOST_SIZE":Str),(4:Int))], [(("RULES":Str),z4z)], [], [("DrawError":Str),("Ended":Str),("NoBottom":Str),("NoCube":Str),("NoDeed":Str),("NoLot":Str),("NoNumber":Str),("NoRoot":Str),("NoRow":Str),("NoRule":Str),("NoSize":Str),("NoStep":Str),("NoTable":Str),("NoText":Str),("NoTuple":Str),("NotAlike":Str),("NotFair":Str),("TooMany":Str)], [((("NoLot":Str),("NoLot":Str)),true),((("NoLot":Str),("NoTable":Str)),false),((("NoLot":Str),("NoTuple":Str)),false),((("NoLot":Str),("NotAlike":Str)),false),((("NoLot":Str),("NotFair":Str)),false),((("NoLot":Str),("NoText":Str)),false),((("NoLot":Str),("NoRule":Str)),false),((("NoLot":Str),("Ended":Str)),false),((("NoLot":Str),("NoBottom":Str)),false),((("NoLot":Str),("NoRoot":Str)),false),((("NoLot":Str),("NoCube":Str)),false),((("NoLot":Str),("NoSize":Str)),false),((("NoLot":Str),("NoNumber":Str)),false),((("NoLot":Str),("TooMany":Str)),false),((("NoLot":Str),("NoStep":Str)),false),((("NoLot":Str),("NoDeed":Str)),false),((("NoLot":Str),("NoRow":Str)),false),((("NoRule":Str),("NoLot":Str)),false),((("NoRule":Str),("NoTable":Str)),false),((("NoRule":Str),("NoTuple":Str)),false),((("NoRule":Str),("NotAlike":Str)),false),((("NoRule":Str),("NotFair":Str)),false),((("NoRule":Str),("NoText":Str)),false),((("NoRule":Str),("NoRule":Str)),true),((("NoRule":Str),("Ended":Str)),false),((("NoRule":Str),("NoBottom":Str)),false),((("NoRule":Str),("NoRoot":Str)),false),((("NoRule":Str),("NoCube":Str)),false),((("NoRule":Str),("NoSize":Str)),false),((("NoRule":Str),("NoNumber":Str)),false),((("NoRule":Str),("TooMany":Str)),false),((("NoRule":Str),("NoStep":Str)),false),((("NoRule":Str),("NoDeed":Str)),false),((("NoRule":Str),("NoRow":Str)),false),((("NoLot":Str),("DrawError":Str)),true),((("NoRule":Str),("DrawError":Str)),true)]⟩
def qv:Program:=W.view PySem.Challenge.pw_drawndown_k31_steps_counted [68]
def looseQ:List Str:=[("DrawError":Str),("NoLot":Str),("NoTable":Str),("NoTuple":Str),("NotAlike":Str),("NotFair":Str),("NoText":Str),("NoRule":Str),("Ended":Str),("NoBottom":Str),("NoRoot":Str),("NoCube":Str),("NoSize":Str),("NoNumber":Str),("TooMany":Str),("NoStep":Str),("NoDeed":Str),("NoRow":Str),("LEAST_SIZE":Str),("MOST_SIZE":Str),("is_whole":Str),("are_wholes":Str),("has_size":Str),("is_lot":Str),("want_lot":Str),("has_ended":Str),("greatest_and_others":Str),("least_place":Str),("all_but":Str),("by_next":Str),("by_least":Str),("by_all":Str),("by_turn":Str),("RULES":Str),("is_rule":Str),("want_rule":Str),("want_rule_and_lot":Str),("want_step":Str),("step":Str),("division":Str),("moved":Str),("run":Str),("many_steps":Str),("by_steps":Str),("common_end":Str),("_law_cell_at":Str),("_law_pot":Str),("_law_take":Str),("_law_lot":Str),("_law_rules":Str),("_law_step":Str),("_law_ended":Str),("_law_run":Str),("_law_no_rule":Str),("_law_whole":Str),("_law_is_lot":Str),("_law_odd":Str),("_law_bent":Str),("_law_kind_of":Str),("_law_same":Str),("_law_told":Str),("_law_alike":Str)]
def lvQ:List (Str×W.WData):=[]
def xtQ:Shared->Bool:=fun s=>W.xlAt qv lvQ s&&W.recOk (W.RowW.records (W.OpenRow.toRowW (W.OpenLaw.row PySem.Challenge.rw_drawndown_k31_steps_counted))) s
theorem zjl:∀ w:World,W.absHeap (zg0 w.params) 11 (W.boot_heap w.params).life=W.boot_heap w.params:=by
 intro w;kernel_rfl
theorem bsz:∀ w:World,((W.boot_heap w.params).isNs mainGlobals&&(Array.mk []:Array GenState).size==0,(W.boot_heap w.params).objs.size,(W.boot_heap w.params).nsMap mainGlobals "__annotations__")=(true,11,(some (.ref 6))):=by
 intro w;kernel_rfl
def zhD(w v:World)(os:OsState):Option W.SharedT:=z2h treeTable PySem.Challenge.pw_drawndown_k31_steps_counted v 11 (some (.ref 6)) 10488 ⟨zg0 w.params,11,(W.boot_heap w.params).life,Array.mk [],W.boot_drawn,W.boot_toks,os⟩ (W.topStub PySem.Challenge.pw_drawndown_k31_steps_counted)
def zgW(w:World)(s:W.SharedT):Bool:=W.staticsOk (importedModules PySem.Challenge.pw_drawndown_k31_steps_counted.main.body) (W.boot_heap w.params) s.abs.heap&&W.namesBound PySem.Challenge.pw_drawndown_k31_steps_counted s.abs.heap&&W.gensDone s.abs&&W.laidKept (W.boot_heap w.params) s.abs.heap
def seenQ(s:Shared):=W.openSeen qv looseQ (importedModules PySem.Challenge.pw_drawndown_k31_steps_counted.main.body) xtQ true s
set_option maxRecDepth 1000000 in
theorem z4T:∀ (w:World)(os:OsState),(zhD w (w.withFollow "special-get-raises" false) os).map (fun s=>(zgW w s,obsS askQ s.abs))=some (true,valS askQ (w.withFollow "special-get-raises" false)):=by
 intro w os;kernel_rfl
set_option maxRecDepth 1000000 in
theorem z5s:∀ (w:World)(os:OsState),(zhD w (w.withFollow "special-get-raises" false) os).map (fun s=>seenQ s.abs)=some (W.openGood qv looseQ):=by
 intro w os;kernel_rfl
set_option maxRecDepth 1000000 in
theorem z6L:∀ (w:World)(os:OsState),(zhD w (w.withFollow "special-get-raises" true) os).map (fun s=>(zgW w s,obsS askQ s.abs))=some (true,valS askQ (w.withFollow "special-get-raises" true)):=by
 intro w os;kernel_rfl
set_option maxRecDepth 1000000 in
theorem z6X:∀ (w:World)(os:OsState),(zhD w (w.withFollow "special-get-raises" true) os).map (fun s=>seenQ s.abs)=some (W.openGood qv looseQ):=by
 intro w os;kernel_rfl
end K31
namespace L2
abbrev Key:=Sum Int Str
def z5H:Key->Value->Bool
 | .inl k,v=>Value.isInt k v | .inr x,v=>Value.isStrOf x v
def zky(w:World):Key->Int
 | .inl k=>hashInt k | .inr x=>hashStr w x
theorem yi:∀ {k:Key} {v:Value},z5H k v=true->(∃ i t,k=Sum.inl i/\v=Value.int i t)\/(∃ x t,k=Sum.inr x/\v=Value.str x t)
 | .inl i,v,h=>by
  obtain ⟨t,e⟩:=Value.isInt_shape (k:=i) (v:=v) h;exact .inl ⟨i,t,rfl,e⟩ | .inr x,v,h=>by
  obtain ⟨t,e⟩:=Value.isStrOf_shape (x:=x) (v:=v) h;exact .inr ⟨x,t,rfl,e⟩
theorem kX(x:Str)(t:Tok):z5H (.inr x) (.str x t)=true:=by simp [z5H,Value.isStrOf]
theorem zhi(a b:Int):decide ((Sum.inl a:Key)=Sum.inl b)=(a==b):=by
 by_cases e:a=b;·subst e;simp
 ·have h:¬ (Sum.inl a:Key)=Sum.inl b:=fun q=>e (Sum.inl.inj q);rw [_ae h];exact (beq_eq_false_iff_ne.mpr e).symm
theorem zhq(a b:Str):decide ((Sum.inr a:Key)=Sum.inr b)=decide (a=b):=by
 by_cases e:a=b;·subst e;simp
 ·have h:¬ (Sum.inr a:Key)=Sum.inr b:=fun q=>e (Sum.inr.inj q);rw [_ae h,_ae e]
theorem zgb(a:Int)(b:Str):decide ((Sum.inl a:Key)=Sum.inr b)=false:=_ae (fun q=>nomatch q)
theorem zgg(a:Str)(b:Int):decide ((Sum.inr a:Key)=Sum.inl b)=false:=_ae (fun q=>nomatch q)
def yc(prog:Program)(w:World):PySem.KeyKind prog w Key where
 is:=z5H;hash:=zky w;inj:=fun v a b ha hb=>by
  rcases yi ha with ⟨i,t,rfl,rfl⟩ | ⟨x,t,rfl,rfl⟩
  ·rcases yi hb with ⟨j,u,rfl,e⟩ | ⟨y,u,rfl,e⟩;·injection e with e1 _;rw [e1]
   ·exact nomatch e
  ·rcases yi hb with ⟨j,u,rfl,e⟩ | ⟨y,u,rfl,e⟩;·exact nomatch e
   ·injection e with e1 _;rw [e1]
 byValue:=fun k v h=>by rcases yi h with ⟨i,t,rfl,rfl⟩ | ⟨x,t,rfl,rfl⟩<;>rfl
 pyHash:=fun hv h=>by
  rcases yi hv with ⟨i,t,rfl,rfl⟩ | ⟨x,t,rfl,rfl⟩;·exact wpAny_pyHash_int h
  ·exact wpAny_pyHash_str h
 eqBool:=fun hu hv h=>by
  rcases yi hu with ⟨i,t,rfl,rfl⟩ | ⟨x,t,rfl,rfl⟩
  ·rcases yi hv with ⟨j,u,rfl,rfl⟩ | ⟨y,u,rfl,rfl⟩;·rw [zhi] at h;exact _bL h
   ·rw [zgb] at h;exact SeqAt.EqAt.int_str i t y u _ _ _ _ h
  ·rcases yi hv with ⟨j,u,rfl,rfl⟩ | ⟨y,u,rfl,rfl⟩;·rw [zgg] at h;exact SeqAt.EqAt.str_int x t j u _ _ _ _ h
   ·rw [zhq] at h;exact wpAny_eqBool_str h
 «strs» := fun k x t v h=>by
  rcases yi h with ⟨i,u,rfl,e⟩ | ⟨y,u,rfl,e⟩;·exact nomatch e
  ·injection e with e1 _;subst e1;cases v<;>rfl
theorem z34(prog:Program)(w:World)(k:Key)(v:Value):(yc prog w).is k v=z5H k v:=rfl
theorem z6x(prog:Program)(w:World)(x:Str)(t:Tok):(yc prog w).is (.inr x) (.str x t)=true:=kX x t
inductive V where | non | bl (b:Bool) | int (i:Int) | str (x:Str) | byt (b:Array UInt8) | flt (b:UInt64) | ref (a:Addr) | ty (n:String) deriving DecidableEq
def xK:V->Value->Prop
 | .non,u=>u=Value.none | .bl b,u=>u=Value.bool b | .int i,u=>∃ t,u=Value.int i t | .str x,u=>∃ t,u=Value.str x t | .byt b,u=>∃ t,u=Value.bytes b t | .flt b,u=>∃ t,u=Value.float b t | .ref a,u=>u=Value.ref a | .ty n,u=>u=Value.type n
abbrev yA:List V->List Value->Prop:=Paired xK
theorem yA.length{xs:List V}{us:List Value}(r:yA xs us):xs.length=us.length:=Paired.length r
theorem yA.get:∀ {xs:List V} {us:List Value} {i:Nat} {x:V},yA xs us->xs[i]? = some x->∃ u,us[i]? = some u/\xK x u
 | _,_,_,_,.nil,e=>by simp at e | _,_,0,_,.cons r _,e=>by simp at e;subst e;exact ⟨_,rfl,r⟩ | _,_,i+1,x,.cons _ t,e=>by
  obtain ⟨u,h1,h2⟩:=yA.get (i:=i) (x:=x) t (by simpa using e);exact ⟨u,by simpa using h1,h2⟩
theorem yA.set{x:V}{u:Value}(r:xK x u):∀ {xs:List V}{us:List Value}(i:Nat),yA xs us->yA (xs.set i x) (us.set i u)
 | _,_,_,.nil=>.nil | _,_,0,.cons _ t=>.cons r t | _,_,i+1,.cons q t=>.cons q (yA.set r i t)
theorem yA.append:∀ {xs ys:List V}{us ws:List Value},yA xs us->yA ys ws->yA (xs++ys) (us++ws)
 | _,_,_,_,.nil,s=>s | _,_,_,_,.cons r t,s=>.cons r (yA.append t s)
theorem yA.take:∀ {xs:List V}{us:List Value}(n:Nat),yA xs us->yA (xs.take n) (us.take n)
 | _,_,0,_=>.nil | _,_,_+1,.nil=>.nil | _,_,n+1,.cons r t=>.cons r (yA.take n t)
theorem yA.drop:∀ {xs:List V}{us:List Value}(n:Nat),yA xs us->yA (xs.drop n) (us.drop n)
 | _,_,0,r=>r | _,_,_+1,.nil=>.nil | _,_,n+1,.cons _ t=>yA.drop n t
def zjb:Option V->Option Value->Prop
 | some v,some u=>xK v u | none,none=>True | _,_=>False
def KV{κ:Type}:List (κ×V)->List (κ×Value)->Prop:=Paired fun (p:κ×V)(q:κ×Value)=>p.1=q.1/\xK p.2 q.2
def kV:Key->V
 | .inl i=>.int i | .inr x=>.str x
inductive HO where | lst (xs:List V) | tup (xs:List V) | dK (kvs:List (Key×V)) | dT (kvs:List (List Key×V)) | set (S:Int->Bool)(n:Nat) | ins (C dx:Addr)(fs:List (Str×V)) | own (x:Addr) | xd (fs:List (Str×V)) | met (f x:Addr) | rng (lo hi:Int) | frz (o:Obj)(u:HO) | tbl (ps:Array Value) | ext (φ:Heap->Prop)
abbrev Hp:=Addr->Option HO
def upd(H:Hp)(a:Addr)(o:HO):Hp:=fun b=>if b=a then some o else H b
theorem yn{H:Hp}{a:Addr}{o:HO}:upd H a o a=some o:=by unfold upd;rw [_d rfl]
theorem zE{H:Hp}{a b:Addr}{o:HO}(h:b≠a):upd H a o b=H b:=by unfold upd;rw [_o h]
theorem ze7{H:Hp}{a:Addr}{o u:HO}:upd (upd H a o) a u=upd H a u:=by funext b;unfold upd;split<;>rfl
theorem yE{H:Hp}{a b:Addr}{o:HO}(h:H a=some o)(h':H b=none):a≠b:=by intro e;subst e;rw [h] at h';cases h'
def z9f(h:Heap)(a:Addr)(items:Array Value):Prop:=∃ o,h.get? a=some o/\o.cls=.type "tuple"/\o.dict=none/\∃ n,o.data=.seq items n
theorem z9f.tup{h:Heap}{a:Addr}{items:Array Value}(x:z9f h a items):IsTup h a items:=let ⟨o,e,c,_,r⟩:=x;⟨o,e,c,r⟩
theorem z9f.new(h:Heap)(items:Array Value):z9f (h.push {cls:=.type "tuple",data:=.seq items}) h.objs.size items:=⟨_,_n _ rfl,rfl,rfl,_,rfl⟩
theorem z9f.lt{h:Heap}{a:Addr}{items:Array Value}(x:z9f h a items):a<h.objs.size:=x.tup.lt
section
variable (P:Program)(w:World)
def xn(H:Hp)(h:Heap)(a:Addr):HO->Prop
 | .lst xs=>xs.length<=sizeLine/\∃ (its:List Value)(n:Nat),yA xs its/\h.get? a=some {cls:=.type "list",data:=.seq its.toArray n} | .tup xs=>xs.length<=sizeLine/\∃ its:List Value,yA xs its/\z9f h a its.toArray | .dK kvs=>kvs.length<=sizeLine/\(a==sysModules)=false/\∃ vs,KV kvs vs/\h.DictOf (yc P w) a vs | .dT kvs=>kvs.length<=sizeLine/\(a==sysModules)=false/\∃ xs:List (List Key×Addr×Value), Paired (fun (p:List Key×V)(q:List Key×Addr×Value)=>p.1=q.1/\H q.2.1=some (.tup (p.1.map kV))/\xK p.2 q.2.2) kvs xs/\ ∃ o es ep,h.get? a=some o/\o.ExactDict/\o.data=.dict es ep/\es.toList=xs.map (entryOfKey (tupleKind (yc P w)))/\(xs.map (·.1)).Nodup | .set S n=>h.SetOf (intKind P w) a S n | .ins C dx fs=>H dx=some (.own a)/\fs.length<=1000/\dx≠a/\h.get? a=some (W.instObj C dx)/\ ∃ mA,h.Ns1 dx mA/\(∀ f,zjb (fs.lookup f) (mA f))/\PySem.Within mA (fs.map (·.1)) | .own _=>∃ o,h.get? a=some o | .xd fs=>∃ mA,h.Ns1 a mA/\∀ f,zjb (fs.lookup f) (mA f) | .rng lo hi=>∃ t u v,h.get? a=some {cls:=.type "range",data:=.fields #[.int lo t,.int hi u,.int 1 v]} | .frz o u=>h.get? a=some o/\xn H h a u | .tbl ps=>h.get? a=some {cls:=.none,data:=.fields ps} | .met f x=>h.get? a=some (W.methodObj (.ref f) (.ref x)) | .ext φ=>φ h/\(∃ o,h.get? a=some o)/\∀ h1 h2:Heap,φ h1->(∀ o,h1.get? a=some o->h2.get? a=some o)->φ h2
def HOk(H:Hp)(h:Heap):Prop:=∀ a o,H a=some o->xn P w H h a o
end
section
variable {P:Program}{w:World}{H H':Hp}{h h':Heap}{a:Addr}{o:HO}
theorem xn.lt(x:xn P w H h a o):a<h.objs.size:=by cases o with
 | lst xs=>obtain ⟨_,_,_,_,e⟩:=x;exact _m e | tup xs=>obtain ⟨_,_,_,p⟩:=x;exact p.lt | dK kvs=>obtain ⟨_,_,_,_,o,_,_,e,_⟩:=x;exact _m e | dT kvs=>obtain ⟨_,_,_,_,o,_,_,e,_⟩:=x;exact _m e | set S n=>obtain ⟨o,_,_,_,e,_⟩:=x;exact _m e | ins C dx fs=>obtain ⟨_,_,_,e,_⟩:=x;exact _m e | own y=>obtain ⟨_,e⟩:=x;exact _m e | xd fs=>obtain ⟨_,⟨_,_,_,e,_⟩,_⟩:=x;exact _m e | rng lo hi=>obtain ⟨_,_,_,e⟩:=x;exact _m e | frz ob u=>obtain ⟨e,_⟩:=x;exact _m e | tbl ps=>exact _m (show h.get? a=some _ from x) | met f y=>exact _m (show h.get? a=some _ from x) | ext φ=>obtain ⟨_,⟨_,e⟩,_⟩:=x;exact _m e
theorem Paired.mapP{α β:Type}{F G:α->β->Prop}:∀ {l₁:List α}{l₂:List β},Paired F l₁ l₂->(∀ a b,F a b->G a b)->Paired G l₁ l₂
 | _,_,.nil,_=>.nil | _,_,.cons r t,f=>.cons (f _ _ r) (Paired.mapP t f)
theorem xn.stay(x:xn P w H h a o)(k:∀ b u,(b=a\/H b=some (.own a))->h.get? b=some u->h'.get? b=some u) (ho:∀ b,H b=some (.own a)->H' b=some (.own a))(ht:∀ b xs,H b=some (.tup xs)->H' b=some (.tup xs)):xn P w H' h' a o:=by induction o with
 | lst xs=>obtain ⟨z,its,n,r,e⟩:=x;exact ⟨z,its,n,r,k _ _ (.inl rfl) e⟩ | tup xs=>obtain ⟨z,its,r,ob,e,c⟩:=x;exact ⟨z,its,r,ob,k _ _ (.inl rfl) e,c⟩ | dK kvs=>obtain ⟨z,y,vs,r,ob,es,ep,e,c⟩:=x;exact ⟨z,y,vs,r,ob,es,ep,k _ _ (.inl rfl) e,c⟩ | dT kvs=>
  obtain ⟨z,y,xs,r,ob,es,ep,e,c⟩:=x;exact ⟨z,y,xs,Paired.mapP r fun p q z=>⟨z.1,ht _ _ z.2.1,z.2.2⟩,ob,es,ep,k _ _ (.inl rfl) e,c⟩ | set S n=>obtain ⟨ob,es,ep,t,e,c⟩:=x;exact ⟨ob,es,ep,t,k _ _ (.inl rfl) e,c⟩ | ins C dx fs=>
  obtain ⟨d,z,ne,e,mA,⟨od,es,ep,e2,c⟩,r⟩:=x;exact ⟨ho _ d,z,ne,k _ _ (.inl rfl) e,mA,⟨od,es,ep,k _ _ (.inr d) e2,c⟩,r⟩ | own y=>obtain ⟨ob,e⟩:=x;exact ⟨ob,k _ _ (.inl rfl) e⟩ | xd fs=>obtain ⟨mA,⟨od,es,ep,e,c⟩,r⟩:=x;exact ⟨mA,⟨od,es,ep,k _ _ (.inl rfl) e,c⟩,r⟩ | rng lo hi=>obtain ⟨t,u,v,e⟩:=x;exact ⟨t,u,v,k _ _ (.inl rfl) e⟩ | frz ob u ih=>obtain ⟨e,q⟩:=x;exact ⟨k _ _ (.inl rfl) e,ih q⟩ | tbl ps=>
  have e:h.get? a=some {cls:=.none,data:=.fields ps}:=x;show h'.get? a=some {cls:=.none,data:=.fields ps};exact k a _ (.inl rfl) e | met f y=>
  have e:h.get? a=some (W.methodObj (.ref f) (.ref y)):=x;show h'.get? a=some (W.methodObj (.ref f) (.ref y));exact k a _ (.inl rfl) e | ext φ=>obtain ⟨p,⟨o,e⟩,st⟩:=x;exact ⟨st _ _ p fun o q=>k _ _ (.inl rfl) q,⟨o,k _ _ (.inl rfl) e⟩,st⟩
theorem HOk.lt(x:HOk P w H h)(e:H a=some o):a<h.objs.size:=(x a o e).lt
theorem HOk.fresh(x:HOk P w H h)(e:h.objs.size<=a):H a=none:=by cases q:H a with
 | none=>rfl | some u=>exact absurd (_q (x.lt q) e) (_af _)
theorem HOk.kept(x:HOk P w H h)(k:∀ b u,h.get? b=some u->h'.get? b=some u):HOk P w H h':=fun a o e=> (x a o e).stay (fun b u _ q=>k b u q) (fun _ q=>q) fun _ _ q=>q
theorem HOk.laid(x:HOk P w H h)(k:∀ b u,h.get? b=some u->h'.get? b=some u)(hp:h.objs.size<=a)(new:xn P w (upd H a o) h' a o):HOk P w (upd H a o) h':=fun b u e=>by
 have hn:=x.fresh hp;by_cases hb:b=a;·subst hb;rw [yn] at e;cases e;exact new
 ·rw [zE hb] at e;exact (x b u e).stay (fun c v _ q=>k c v q) (fun c q=>by rw [zE (yE q hn)];exact q) fun c xs q=>by rw [zE (yE q hn)];exact q
end
def Rd(H:Hp)(a:Addr)(u:HO):Prop:=H a=some u\/∃ o,H a=some (.frz o u)
theorem Rd.ok{P:Program}{w:World}{H:Hp}{h:Heap}{a:Addr}{u:HO}(r:Rd H a u)(x:HOk P w H h):xn P w H h a u:=by
 rcases r with r | ⟨o,r⟩;·exact x a u r
 ·obtain ⟨_,q⟩:=x a _ r;exact q
def Mut:Option HO->Prop
 | some (.lst _)=>True | some (.dK _)=>True | some (.dT _)=>True | some (.set _ _)=>True | some (.ins _ _ _)=>True | some (.ext _)=>True | _=>False
section
variable {P:Program}{w:World}{H:Hp}{h h':Heap}{x e:Addr}{o':HO}
theorem HOk.write(ok:HOk P w H h)(mu:Mut (H x))(he:e=x\/H e=some (.own x))(k:∀ b u,b≠e->h.get? b=some u->h'.get? b=some u)(heo:∃ u,h'.get? e=some u) (new:xn P w (upd H x o') h' x o'):HOk P w (upd H x o') h':=fun b u q=>by
 have nown:∀ c y,H c=some (.own y)->c≠x:=fun c y r z=>by subst z;rw [r] at mu;exact mu
 have ntup:∀ c xs,H c=some (.tup xs)->c≠x:=fun c xs r z=>by subst z;rw [r] at mu;exact mu
 by_cases hb:b=x;·subst hb;rw [yn] at q;cases q;exact new
 ·rw [zE hb] at q;by_cases hbe:b=e
  ·have q':H b=some (.own x):=by
    rcases he with z | z;·exact absurd (hbe.trans z) hb
    ·rw [hbe];exact z
   rw [q] at q';cases q';obtain ⟨v,hv⟩:=heo;exact ⟨v,by rw [hbe];exact hv⟩
  ·refine (ok b u q).stay (fun c v hc r=>k c v ?_ r) (fun c r=>by rw [zE (nown c b r)];exact r) fun c xs r=>by rw [zE (ntup c xs r)];exact r
   rcases hc with rfl | hc;·exact hbe
   ·rintro rfl;rcases he with z | z;·exact nown c b hc z
    ·rw [hc] at z;cases z;exact hb rfl
end
structure Un(fs ex:List Addr)(H H':Hp)(h h':Heap):Prop where
 keep:∀ b o,h.get? b=some o->H b=none->b∉fs->b∉ex->h'.get? b=some o
 slot:∀ b o,h.get? b=some o->H b=none->b∈fs->b∉ex->∃ sl,h'.get? b=some {o with slots:=sl}
 free:∀ b o,h.get? b=some o->H b=none->b∉ex->H' b=none
 there:∀ b o,h.get? b=some o->b∉ex->∃ o',h'.get? b=some o'
 tups:∀ b xs,H b=some (.tup xs)->H' b=some (.tup xs)
 frzs:∀ b o u,H b=some (.frz o u)->H' b=some (.frz o u)
 tbls:∀ b ps,H b=some (.tbl ps)->∃ more,H' b=some (.tbl (ps++more))
section
variable {fs fs' ex ex':List Addr}{H H1 H2:Hp}{h h1 h2 h':Heap}{a x e:Addr}{o:HO}
theorem Un.any(u:Un fs ex H H1 h h1){b:Addr}{ob:Obj}(q:h.get? b=some ob)(n:H b=none)(hx:b∉ex):∃ sl,h1.get? b=some {ob with slots:=sl}:=by
 by_cases hb:b∈fs;·exact u.slot b ob q n hb hx
 ·exact ⟨ob.slots,u.keep b ob q n hb hx⟩
theorem Un.kept(k:∀ b u,h.get? b=some u->h'.get? b=some u):Un fs ex H H h h':= ⟨fun b ob q _ _ _=>k b ob q,fun b ob q _ _ _=>⟨ob.slots,k b ob q⟩,fun _ _ _ n _=>n,fun b ob q _=>⟨ob,k b ob q⟩,fun _ _ q=>q,fun _ _ _ q=>q,fun _ ps q=>⟨#[],by rw [q];simp⟩⟩
theorem Un.refl:Un fs ex H H h h:=Un.kept fun _ _ q=>q
theorem Un.laid(k:∀ b u,h.get? b=some u->h'.get? b=some u)(hp:h.objs.size<=a)(hn:H a=none):Un fs ex H (upd H a o) h h' where
 keep:=fun b u q _ _ _=>k b u q;slot:=fun b u q _ _ _=>⟨u.slots,k b u q⟩;free:=fun b u q n _=>by rw [zE (_u (_q (_m q) hp))];exact n
 there:=fun b u q _=>⟨u,k b u q⟩;tups:=fun b xs q=>by rw [zE (yE q hn)];exact q
 frzs:=fun b u xs q=>by rw [zE (yE q hn)];exact q
 tbls:=fun b ps q=>⟨#[],by rw [zE (yE q hn),q];simp⟩
theorem Un.write(mu:Mut (H x))(he:e=x\/H e=some (.own x))(k:∀ b u,b≠e->h.get? b=some u->h'.get? b=some u)(heo:∃ u,h'.get? e=some u):Un fs ex H (upd H x o) h h':=by
 have hx:∀ b,H b=none->b≠x:=fun b n z=>by subst z;rw [n] at mu;exact mu
 have hb:∀ b,H b=none->b≠e:=fun b n z=>by
  subst z;rcases he with r | r;·exact hx b n r
  ·rw [n] at r;cases r
 have hm:∀ b u,H b=some u->¬ Mut (some u)->b≠x:=fun b u q nm z=>by subst z;rw [q] at mu;exact nm mu
 refine ⟨fun b u q n _ _=>k b u (hb b n) q,fun b u q n _ _=>⟨u.slots,k b u (hb b n) q⟩,fun b u q n _=>by rw [zE (hx b n)];exact n,fun b u q _=>?_, fun b xs q=>by rw [zE (hm b _ q fun z=>z)];exact q,fun b u xs q=>by rw [zE (hm b _ q fun z=>z)];exact q,fun b ps q=>⟨#[],by rw [zE (hm b _ q fun z=>z),q];simp⟩⟩;by_cases hbe:b=e;·subst hbe;exact heo
 ·exact ⟨u,k b u hbe q⟩
end
def trk(h:Heap)(H:Hp):List Addr:=(List.range h.objs.size).filter fun a=>(H a).isSome
def zc3(h:Heap)(H:Hp):Heap:=PySem.W.hideAll h (trk h H)
theorem z9h(h:Heap)(H:Hp):(zc3 h H).objs.size=h.objs.size:=PySem.W.hideAll_size _ _
theorem zc2{h:Heap}{H:Hp}{b:Addr}{o:Obj}(e:h.get? b=some o)(n:H b=none):(zc3 h H).get? b=some o:= PySem.W.hideAll_get _ e fun hm=>by
  have q:(H b).isSome=true:=(List.mem_filter.mp hm).2;rw [n] at q;simp at q
theorem zfv{h:Heap}{H:Hp}{b:Addr}{o:Obj}(e:(zc3 h H).get? b=some o):h.get? b=some o/\H b=none:=by
 have e':h.get? b=some o:=PySem.W.of_hideAll (trk h H) e;refine ⟨e',?_⟩;cases q:H b with
 | none=>rfl | some x=>
  have hm:b∈trk h H:=List.mem_filter.mpr ⟨_az.mpr (_m e'),by simp [q]⟩;have z:(zc3 h H).get? b=none:=PySem.W.hideAll_none (trk h H) hm;rw [z] at e;cases e
def zf1(g h:Heap)(L:Addr):List (Addr×Obj):=(List.range h.objs.size).filterMap fun a=>if a=L\/(g.get? a).isSome=true then none else (h.get? a).map fun o=>(a,o)
def uB(g h:Heap)(L d:Addr):List (Addr×Obj):=(zf1 g h L).filter fun p=>decide (p.1≠d)
structure Mod(K:W.Frag)(mg:Str->Option Value)(base:Heap):Prop where
 kin:K.In base
 glob:base.Ns mainGlobals mg
 blt:∃ mb,base.Ns builtinsNs mb/\∀ x:Str,x≠"__name__"->mb x=bootBuiltins x
 nolimit:base.NoLimit
structure Cx where
 prog:Program
 w:World
 K:W.Frag
 mg:Str->Option Value
 base:Heap
 A:Around
 N:List Str
 s₀:Shared
 H₀:Hp
 env:Env
 outer:List Env
 stack:List Env
 ex:List Addr
 fn:Str->Bool
 calm:Bool
 pn:List (Addr×Obj)
 xe:Value->Shared->Prop
def frs(l:List Env):List Addr:=l.filterMap (·.frame)
abbrev Cx.fs(X:Cx):List Addr:=frs X.outer
def Vis(sc:Scope)(x:Str):Prop:=sc.names.lookup x=some .local\/sc.names.lookup x=some .cell\/sc.names.lookup x=some .free
def Loc(sc:Scope)(x:Str):Prop:=sc.names.lookup x=some .local\/sc.names.lookup x=some .cell
def zk1(env:Env)(h:Heap)(m:Str->Option Value)(x:Str)(u:Value):Prop:= (env.kindOf x=some .local/\m x=some u)\/((env.kindOf x=some .cell\/env.kindOf x=some .free)/\∃ c,env.cells.lookup x=some c/\h.IsCell c (some u))
structure Cx.Ok(X:Cx):Prop where
 mod:Mod X.K X.mg X.base
 kind:X.env.scope.kind=.function
 glob:X.env.globals=mainGlobals
 blt:X.env.builtins=builtinsNs
 above:X.s₀.heap.objs.size<=X.env.locals
 inj:∀ x y c,X.env.cells.lookup x=some c->X.env.cells.lookup y=some c->x=y
 has:∀ x,(X.env.kindOf x=some .cell\/X.env.kindOf x=some .free)->∃ c,X.env.cells.lookup x=some c
 cab:∀ x c,X.fn x=true->X.env.cells.lookup x=some c->X.s₀.heap.objs.size<=c
 hd:X.calm=true->X.A.handled=none
 frames:X.A.frames=some X.stack
 stk:X.stack=X.outer\/(X.stack=X.env::X.outer/\X.env.frame=some X.env.locals)
 exf:∀ b∈X.ex,b≠X.env.locals/\∀ x c,X.env.cells.lookup x=some c->c≠b
 bs:∀ b o,X.base.get? b=some o->X.s₀.heap.get? b=some o/\X.H₀ b=none
 bsz:X.base.objs.size<=X.s₀.heap.objs.size
 noex:∀ b o,X.base.get? b=some o->b∉X.ex
 exfs:∀ b∈X.ex,b∉X.fs
 funs:X.s₀.heap.FunFrames X.base X.outer
 frf:∀ b∈X.fs,X.H₀ b=none
structure Inv(X:Cx)(pins:List (Addr×Obj))(O:List (Option V))(H:Hp)(s:Shared):Prop where
 ok:X.Ok
 os:s.os=X.s₀.os
 bare:AllBare s.gens
 base:Un X.fs X.ex X.H₀ H X.s₀.heap s.heap
 loc:∃ m,s.heap.Ns X.env.locals m/\∀ (i:Nat)(x:Str)(v:V),X.N[i]? = some x->O[i]? = some (some v)->Vis X.env.scope x->∃ u,xK v u/\zk1 X.env s.heap m x u
 cell:∀ x c,X.env.cells.lookup x=some c->∃ v,s.heap.IsCell c v
 free:H X.env.locals=none
 freeC:∀ x c,X.env.cells.lookup x=some c->H c=none
 pin:∀ p∈X.pn++pins,s.heap.get? p.1=some p.2/\H p.1=none/\p.1≠X.env.locals/\p.1∉X.fs/\∀ v,p.2.data≠.cell v
 hok:HOk X.prog X.w H s.heap
 len:O.length=X.N.length
section
variable {X:Cx}{pins:List (Addr×Obj)}{O:List (Option V)}{H H':Hp}{s:Shared}{h':Heap}
theorem Cx.Ok.nofr(ok:X.Ok){b:Addr}{o:Obj}(e:X.base.get? b=some o):b∉X.fs:=fun hb=>by
 have:=(ok.funs.mem hb).1;rw [e] at this;cases this
theorem Inv.bs(I:Inv X pins O H s):∀ b o,X.base.get? b=some o->s.heap.get? b=some o/\H b=none:=fun b o e=> ⟨I.base.keep b o (I.ok.bs b o e).1 (I.ok.bs b o e).2 (I.ok.nofr e) (I.ok.noex b o e),I.base.free b o (I.ok.bs b o e).1 (I.ok.bs b o e).2 (I.ok.noex b o e)⟩
theorem Inv.bk(I:Inv X pins O H s):∀ b o,X.base.get? b=some o->s.heap.get? b=some o:=fun b o e=>(I.bs b o e).1
theorem Inv.mod(I:Inv X pins O H s):Mod X.K X.mg X.base:=I.ok.mod
theorem Inv.kIn(I:Inv X pins O H s):X.K.In s.heap:=I.ok.mod.kin.keeps I.bk
theorem Inv.fr(I:Inv X pins O H s):∃ m,Fr X.base X.env.locals s.heap m:= let ⟨m,hn,_⟩:=I.loc;⟨m,hn,I.bk,_R I.ok.bsz I.ok.above⟩
theorem Inv.lt(I:Inv X pins O H s):X.env.locals<s.heap.objs.size:=let ⟨_,hn,_⟩:=I.loc;hn.lt
theorem Inv.sz(I:Inv X pins O H s):X.s₀.heap.objs.size<=s.heap.objs.size:=_R I.ok.above (_cV I.lt)
theorem Inv.nofs(I:Inv X pins O H s){a:Addr}(h:s.heap.objs.size<=a):a∉X.fs:=fun hb=>by
 obtain ⟨_,o,ho,_⟩:=I.ok.funs.mem hb;exact absurd (_q (_m ho) (_R I.sz h)) (_af _)
theorem Inv.cne(I:Inv X pins O H s):∀ x c,X.env.cells.lookup x=some c->c≠X.env.locals:=fun x c e z=>by
 obtain ⟨v,o,ho,hd⟩:=I.cell x c e;obtain ⟨m,⟨o',es,ep,ho',hd',_⟩,_⟩:=I.loc;rw [z,ho'] at ho;cases ho;rw [hd'] at hd;cases hd
theorem Inv.funs(I:Inv X pins O H s):s.heap.FunFrames X.base X.outer:=by
 have all:∀ (l:List Env),(∀ b∈frs l,b∈X.fs)->X.s₀.heap.FunFrames X.base l->s.heap.FunFrames X.base l:=by
  intro l;induction l with
  | nil=>intro _ _;trivial | cons env r ih=>
   intro hs hl;obtain ⟨hk,⟨L,o,hf,hn,ho,hd⟩,hr⟩:=hl;have hL:L∈X.fs:=hs L (by unfold frs;rw [_aX,hf];exact _F);obtain ⟨sl,e⟩:=I.base.slot L o ho (I.ok.frf L hL) hL fun z=>I.ok.exfs L z hL;exact ⟨hk,⟨L,_,hf,hn,e,hd⟩,ih (fun b hb=>hs b (by unfold frs;rw [_aX,hf];exact _t _ hb)) hr⟩
 exact all X.outer (fun _ hb=>hb) I.ok.funs
theorem Inv.stack(I:Inv X pins O H s):s.heap.FunFrames X.base X.stack:=by
 rcases I.ok.stk with e | ⟨e,hf⟩;·rw [e];exact I.funs
 ·rw [e];obtain ⟨m,hn,_⟩:=I.loc;refine .cons (by rw [I.ok.kind];decide) hf hn ?_ I.funs;exact Heap.get?_none_of_le (_R I.ok.bsz I.ok.above)
theorem Inv.stkSub(I:Inv X pins O H s):∀ b∈frs X.stack,b∈X.env.locals::X.fs:=fun b hb=>by
 rcases I.ok.stk with e | ⟨e,hf⟩;·rw [e] at hb;exact _t _ hb
 ·rw [e] at hb;unfold frs at hb;rw [_aX,hf] at hb;exact hb
theorem Inv.stkFree(I:Inv X pins O H s):∀ b∈frs X.stack,H b=none:=fun b hb=>by
 rcases _r.mp (I.stkSub b hb) with e | hb;·rw [e];exact I.free
 ·obtain ⟨_,o,ho,_⟩:=I.ok.funs.mem hb;exact I.base.free b o ho (I.ok.frf b hb) fun z=>I.ok.exfs b z hb
theorem Inv.step{g':Array GenState}{t':Nat}{d':Drawn}{ch:List Addr}(I:Inv X pins O H s) (hch:∀ b∈ch,(b∈X.ex\/X.s₀.heap.objs.size<=b)/\b≠X.env.locals/\(∀ x c,X.env.cells.lookup x=some c->c≠b)/\∀ p∈X.pn++pins,p.1≠b) (keep:∀ b o,b≠X.env.locals->b∉X.fs->b∉ch->s.heap.get? b=some o->H b=none->h'.get? b=some o) (slot:∀ b o,b≠X.env.locals->b∈X.fs->b∉ch->s.heap.get? b=some o->H b=none->∃ sl,h'.get? b=some {o with slots:=sl})(free:∀ b o,b∉ch->s.heap.get? b=some o->H b=none->H' b=none) (there:∀ b o,b∉ch->s.heap.get? b=some o->∃ o',h'.get? b=some o') (tups:∀ b xs,H b=some (.tup xs)->H' b=some (.tup xs))(frzs:∀ b o u,H b=some (.frz o u)->H' b=some (.frz o u))(tbls:∀ b ps,H b=some (.tbl ps)->∃ more,H' b=some (.tbl (ps++more))) (ns:∀ m,s.heap.Ns X.env.locals m->h'.Ns X.env.locals m)(hok:HOk X.prog X.w H' h')(hg:AllBare g'): Inv X pins O H' {s with heap:=h',gens:=g',drawn:=d',toks:=t'}:=by
 have neL:∀ b o,X.s₀.heap.get? b=some o->b≠X.env.locals:=fun b o e=>_u (_q (_m e) I.ok.above);have neC:∀ b o,X.s₀.heap.get? b=some o->b∉X.ex->b∉ch:=fun b o e hx hb=>by
  rcases (hch b hb).1 with z | z;·exact hx z
  ·exact absurd (_q (_m e) z) (_af _)
 have cellK:∀ x c,X.env.cells.lookup x=some c->∀ v,s.heap.IsCell c v->h'.IsCell c v:=fun x c e v ⟨o,ho,hd⟩=>by
  have nch:c∉ch:=fun z=>(hch c z).2.2.1 x c e rfl;by_cases hc:c∈X.fs
  ·obtain ⟨sl,q⟩:=slot c o (I.cne x c e) hc nch ho (I.freeC x c e);exact ⟨_,q,hd⟩
  ·exact ⟨o,keep c o (I.cne x c e) hc nch ho (I.freeC x c e),hd⟩
 refine ⟨I.ok,I.os,hg,⟨fun b o e n hb hx=>?_,fun b o e n hb hx=>?_,fun b o e n hx=>?_,fun b o e hx=>?_,fun b xs e=>tups b xs (I.base.tups b xs e),fun b o xs e=>frzs b o xs (I.base.frzs b o xs e),fun b ps e=>?_⟩,?_,fun x c e=>?_,?_,fun x c e=>?_,fun p hp=>?_,hok,I.len⟩;·exact keep b o (neL b o e) hb (neC b o e hx) (I.base.keep b o e n hb hx) (I.base.free b o e n hx)
 ·obtain ⟨sl,e1⟩:=I.base.slot b o e n hb hx;obtain ⟨sl',e2⟩:=slot b _ (neL b o e) hb (neC b o e hx) e1 (I.base.free b o e n hx);exact ⟨sl',e2⟩
 ·obtain ⟨o',e1⟩:=I.base.there b o e hx;exact free b o' (neC b o e hx) e1 (I.base.free b o e n hx)
 ·obtain ⟨o',e1⟩:=I.base.there b o e hx;exact there b o' (neC b o e hx) e1
 ·obtain ⟨m1,e1⟩:=I.base.tbls b ps e;obtain ⟨m2,e2⟩:=tbls b _ e1;exact ⟨m1++m2,by rw [e2,Array.append_assoc]⟩
 ·obtain ⟨m,hn,hl⟩:=I.loc;refine ⟨m,ns m hn,fun i x v e1 e2 e3=>?_⟩;obtain ⟨u,r,l⟩:=hl i x v e1 e2 e3;refine ⟨u,r,?_⟩;rcases l with l | ⟨k,c,e,z⟩;·exact .inl l
  ·exact .inr ⟨k,c,e,cellK x c e _ z⟩
 ·obtain ⟨v,z⟩:=I.cell x c e;exact ⟨v,cellK x c e v z⟩
 ·obtain ⟨m,⟨o,_,_,ho,_⟩,_⟩:=I.loc;exact free _ o (fun z=>(hch _ z).2.1 rfl) ho I.free
 ·obtain ⟨v,o,ho,hd⟩:=I.cell x c e;exact free c o (fun z=>(hch c z).2.2.1 x c e rfl) ho (I.freeC x c e)
 ·obtain ⟨e,n,ne,nf,d⟩:=I.pin p hp;have nch:p.1∉ch:=fun z=>(hch p.1 z).2.2.2 p hp rfl;exact ⟨keep p.1 p.2 ne nf nch e n,free p.1 p.2 nch e n,ne,nf,d⟩
theorem Inv.un {t':Nat} (I:Inv X pins O H s) (u:Un X.fs [] H H' s.heap h') (hok:HOk X.prog X.w H' h'):Inv X pins O H' {s with heap:=h',toks:=t'}:=by
 obtain ⟨m,⟨o,es,ep,ho,r⟩,_⟩:=id I.loc;obtain ⟨sl,hL⟩:=u.any ho I.free (by simp);exact I.step (g':=s.gens) (d':=s.drawn) (ch:=[]) (fun _ z=>nomatch z) (fun b o _ hb _ e n=>u.keep b o e n hb (by simp)) (fun b o _ hb _ e n=>u.slot b o e n hb (by simp)) (fun b o _ e n=>u.free b o e n (by simp)) (fun b o _ e=>u.there b o e (by simp)) u.tups u.frzs u.tbls (fun m' hm=>by
  obtain ⟨o',es',ep',ho',r'⟩:=hm;rw [ho] at ho';cases ho';exact ⟨_,es',ep',hL,r'⟩) hok I.bare
theorem Inv.call{g':Array GenState}{t':Nat}{d':Drawn}{ch:List Addr}(I:Inv X pins O H s)(u:Un (frs X.stack) ch H H' s.heap h')(hok:HOk X.prog X.w H' h')(hg:AllBare g') (hch:∀ b∈ch,(b∈X.ex\/X.s₀.heap.objs.size<=b)/\b≠X.env.locals/\(∀ x c,X.env.cells.lookup x=some c->c≠b)/\∀ p∈X.pn++pins,p.1≠b): Inv X pins O H' {s with heap:=h',gens:=g',drawn:=d',toks:=t'}:=by
 obtain ⟨m,⟨o,es,ep,ho,r⟩,_⟩:=id I.loc;obtain ⟨sl,hL⟩:=u.any ho I.free fun z=>(hch _ z).2.1 rfl;exact I.step (ch:=ch) hch (fun b o hL hb hc e n=>u.keep b o e n (fun z=>(_r.mp (I.stkSub b z)).elim hL hb) hc) (fun b o _ _ hc e n=>u.any e n hc) (fun b o hc e n=>u.free b o e n hc) (fun b o hc e=>u.there b o e hc) u.tups u.frzs u.tbls (fun m' hm=>by
  obtain ⟨o',es',ep',ho',r'⟩:=hm;rw [ho] at ho';cases ho';exact ⟨_,es',ep',hL,r'⟩) hok hg
theorem Inv.turned {t':Nat} {it:Addr} (I:Inv X pins O H s) (k:∀ b o,b≠it->s.heap.get? b=some o->h'.get? b=some o) (hn:H it=none) (hL:it≠X.env.locals) (h1:it∈X.ex\/X.s₀.heap.objs.size<=it) (h2:∀ x c,X.env.cells.lookup x=some c->c≠it) (h3:∀ p∈X.pn++pins,p.1≠it):Inv X pins O H {s with heap:=h',toks:=t'}:=by
 have nit:∀ b u,H b=some u->b≠it:=fun b u e z=>by rw [z,hn] at e;cases e
 refine I.step (g':=s.gens) (d':=s.drawn) (ch:=[it]) (fun b hb=>?_) (fun b o _ _ hc e _=>k b o (fun z=>hc (by simp [z])) e) (fun b o _ _ hc e _=>⟨o.slots,k b o (fun z=>hc (by simp [z])) e⟩) (fun _ _ _ _ n=>n) (fun b o hc e=>⟨o,k b o (fun z=>hc (by simp [z])) e⟩) (fun _ _ e=>e) (fun _ _ _ e=>e) (fun b ps e=>⟨#[],by rw [e];simp⟩) (fun m hm=>?_) (fun b u e=>?_) I.bare
 ·have e:b=it:=by simpa using hb
  subst e;exact ⟨h1,hL,h2,h3⟩
 ·obtain ⟨o,es,ep,ho,r⟩:=hm;exact ⟨o,es,ep,k _ o (_aE hL) ho,r⟩
 ·refine (I.hok b u e).stay (fun c v hc q=>k c v ?_ q) (fun _ q=>q) fun _ _ q=>q;rcases hc with z | z;·rw [z];exact nit b u e
  ·exact nit c _ z
theorem Inv.tok (I:Inv X pins O H s) (t:Nat):Inv X pins O H {s with toks:=t}:=I.un (h':=s.heap) (t':=t) Un.refl I.hok
theorem Inv.kept{t':Nat}(I:Inv X pins O H s)(k:∀ b u,s.heap.get? b=some u->h'.get? b=some u):Inv X pins O H {s with heap:=h',toks:=t'}:=I.un (Un.kept k) (I.hok.kept k)
theorem Inv.laid {a:Addr} {o:HO} {t':Nat} (I:Inv X pins O H s) (k:∀ b u,s.heap.get? b=some u->h'.get? b=some u) (hp:s.heap.objs.size<=a) (new:xn X.prog X.w (upd H a o) h' a o): Inv X pins O (upd H a o) {s with heap:=h',toks:=t'}:=I.un (Un.laid k hp (I.hok.fresh hp)) (I.hok.laid k hp new)
theorem Inv.write {x e:Addr} {o:HO} {t':Nat} (I:Inv X pins O H s) (mu:Mut (H x)) (he:e=x\/H e=some (.own x)) (k:∀ b u,b≠e->s.heap.get? b=some u->h'.get? b=some u) (heo:∃ u,h'.get? e=some u) (new:xn X.prog X.w (upd H x o) h' x o):Inv X pins O (upd H x o) {s with heap:=h',toks:=t'}:=I.un (Un.write mu he k heo) (I.hok.write mu he k heo new)
theorem Inv.weak{O':List (Option V)}(I:Inv X pins O H s)(hl:O'.length=O.length)(w:∀ (i:Nat) v,O'[i]? = some (some v)->O[i]? = some (some v)):Inv X pins O' H s:= ⟨I.ok,I.os,I.bare,I.base,let ⟨m,hn,hl'⟩:=I.loc;⟨m,hn,fun i x v e1 e2 e3=>hl' i x v e1 (w i v e2) e3⟩,I.cell,I.free,I.freeC,I.pin,I.hok,hl.trans I.len⟩
theorem Inv.pins_of{pins':List (Addr×Obj)}(I:Inv X pins O H s)(h:∀ p∈pins',s.heap.get? p.1=some p.2/\H p.1=none/\p.1≠X.env.locals/\p.1∉X.fs/\∀ v,p.2.data≠.cell v):Inv X pins' O H s:= ⟨I.ok,I.os,I.bare,I.base,I.loc,I.cell,I.free,I.freeC,fun p hp=>(_ag.mp hp).elim (fun z=>I.pin p (_aQ _ z)) (h p),I.hok,I.len⟩
theorem z7t{N:List Str}(hN:N.Nodup){i j:Nat}{x:Str}(a:N[i]? = some x)(b:N[j]? = some x):i=j:=by
 obtain ⟨h1,e1⟩:=_c.mp a;obtain ⟨h2,e2⟩:=_c.mp b;exact (_aG hN).mp (e1.trans e2.symm)
theorem z2i{M:Model}{A:Around}{E:Value->Shared->Prop}{i:Nat}{x:Str}{v:V}{u:Value}{Q:Unit->Shared->Prop}(I:Inv X pins O H s)(hN:X.N.Nodup)(hi:X.N[i]? = some x)(hx:Loc X.env.scope x)(r:xK v u) (h:∀ s',Inv X pins (O.set i (some v)) H s'->(∃ a,Heap.SameBut a s.heap s'.heap/\(a=X.env.locals\/X.env.cells.lookup x=some a))->Q () s')(hf:X.fn x=true\/X.env.scope.names.lookup x=some .local:=by first | exact .inl rfl | exact .inr rfl | assumption):wpAny M A (storeName X.env x u) Q E s:=by
 obtain ⟨m,hn,hl⟩:=id I.loc;have hcls:(X.env.scope.kind==.class||(X.env.scope.kind==.module&&X.env.locals != X.env.globals))=false:=by rw [I.ok.kind];rfl
 have hiO:i<O.length:=by rw [I.len];exact (_c.mp hi).1
 have cne:=I.cne;have tracked:∀ {a:Addr}{h':Heap},(∃ o,s.heap.get? a=some o/\H a=none)->Heap.SameBut a s.heap h'->HOk X.prog X.w H h':=fun {a h'} ha hs b ob e=>by
  obtain ⟨_,_,hfree⟩:=ha;refine (I.hok b ob e).stay (fun c w' hc q=>(hs.2 c ?_).trans q) (fun _ q=>q) fun _ _ q=>q;rintro rfl;rcases hc with rfl | hc;·rw [hfree] at e;cases e
  ·rw [hfree] at hc;cases hc
 rcases hx with hk | hk
 ·refine wpAny_storeName_local hk hn (fun h' hn' hs=>?_) hcls;obtain ⟨oL,_,_,hoL,_⟩:=id hn;refine h _ ⟨I.ok,I.os,I.bare,⟨fun b o e n hb hx=>?_,fun b o e n hb hx=>?_,I.base.free,fun b o e hx=>?_,I.base.tups,I.base.frzs,I.base.tbls⟩,⟨_,hn',fun j y v' e1 e2 e3=>?_⟩,fun y c e=>?_,I.free,I.freeC,fun p hp=>?_,tracked ⟨oL,hoL,I.free⟩ hs,by simpa using I.len⟩ ⟨_,hs,.inl rfl⟩;·exact (hs.2 b (_u (_q (_m e) I.ok.above))).trans (I.base.keep b o e n hb hx)
  ·obtain ⟨sl,e1⟩:=I.base.slot b o e n hb hx;exact ⟨sl,(hs.2 b (_u (_q (_m e) I.ok.above))).trans e1⟩
  ·obtain ⟨o',e1⟩:=I.base.there b o e hx;exact ⟨o',(hs.2 b (_u (_q (_m e) I.ok.above))).trans e1⟩
  ·by_cases hj:j=i
   ·subst hj;rw [hi] at e1;cases e1;rw [_P hiO] at e2;cases e2;exact ⟨u,r,.inl ⟨hk,by simp⟩⟩
   ·rw [_K (_aE hj)] at e2;obtain ⟨u',r',q⟩:=hl j y v' e1 e2 e3;refine ⟨u',r',?_⟩;rcases q with ⟨k,e⟩ | ⟨k,c,e,z⟩
    ·refine .inl ⟨k,?_⟩;have:y≠x:=fun e=>hj (z7t hN e1 (e ▸ hi));simp [this,e]
    ·exact .inr ⟨k,c,e,z.sameBut hs (cne y c e)⟩
  ·obtain ⟨w',z⟩:=I.cell y c e;exact ⟨w',z.sameBut hs (cne y c e)⟩
  ·obtain ⟨e,n,ne,nf,d⟩:=I.pin p hp;exact ⟨(hs.2 p.1 ne).trans e,n,ne,nf,d⟩
 ·have hfn:X.fn x=true:=by
   rcases hf with z | z;·exact z
   ·rw [z] at hk;cases hk
  obtain ⟨c,hc⟩:=I.ok.has x (.inl hk);obtain ⟨w',z⟩:=I.cell x c hc;refine wpAny_storeName_cell I.ok.kind hk hc z (fun h' hc' hs=>?_);obtain ⟨oc,hoc,hocd⟩:=id z;refine h {s with heap:=h'} ⟨I.ok,I.os,I.bare,⟨fun b o e n hb hx=>?_,fun b o e n hb hx=>?_,I.base.free,fun b o e hx=>?_,I.base.tups,I.base.frzs,I.base.tbls⟩,⟨m,hn.sameBut hs (_aE (cne x c hc)),fun j y v' e1 e2 e3=>?_⟩,fun y c' e=>?_,I.free,I.freeC,fun p hp=>?_,tracked ⟨oc,hoc,I.freeC x c hc⟩ hs,by simpa using I.len⟩ ⟨c,hs,.inr hc⟩;·exact (hs.2 b (_u (_q (_m e) (I.ok.cab x c hfn hc)))).trans (I.base.keep b o e n hb hx)
  ·obtain ⟨sl,e1⟩:=I.base.slot b o e n hb hx;exact ⟨sl,(hs.2 b (_u (_q (_m e) (I.ok.cab x c hfn hc)))).trans e1⟩
  ·obtain ⟨o',e1⟩:=I.base.there b o e hx;exact ⟨o',(hs.2 b (_u (_q (_m e) (I.ok.cab x c hfn hc)))).trans e1⟩
  ·by_cases hj:j=i
   ·subst hj;rw [hi] at e1;cases e1;rw [_P hiO] at e2;cases e2;exact ⟨u,r,.inr ⟨.inl hk,c,hc,hc'⟩⟩
   ·rw [_K (_aE hj)] at e2;obtain ⟨u',r',q⟩:=hl j y v' e1 e2 e3;refine ⟨u',r',?_⟩;rcases q with q | ⟨k,c',e,z'⟩;·exact .inl q
    ·refine .inr ⟨k,c',e,z'.sameBut hs ?_⟩;rintro rfl;exact hj (z7t hN e1 (I.ok.inj _ _ _ e hc ▸ hi))
  ·by_cases hcc:c'=c;·subst hcc;exact ⟨_,hc'⟩
   ·obtain ⟨w2,z2⟩:=I.cell y c' e;exact ⟨w2,z2.sameBut hs hcc⟩
  ·obtain ⟨e,n,ne,nf,d⟩:=I.pin p hp;refine ⟨(hs.2 p.1 ?_).trans e,n,ne,nf,d⟩;intro q;rw [q,hoc] at e;have q':oc=p.2:=_I e;exact d w' (by rw [<- q'];exact hocd)
theorem jA{M:Model}{A:Around}{E:Value->Shared->Prop}{i:Nat}{x:Str}{v:V}{u:Value}{Q:Unit->Shared->Prop}(I:Inv X pins O H s)(hN:X.N.Nodup)(hi:X.N[i]? = some x)(hx:Loc X.env.scope x)(r:xK v u) (h:∀ s',Inv X pins (O.set i (some v)) H s'->Q () s')(hf:X.fn x=true\/X.env.scope.names.lookup x=some .local:=by first | exact .inl rfl | exact .inr rfl | assumption):wpAny M A (storeName X.env x u) Q E s:= z2i I hN hi hx r (fun s' I' _=>h s' I') hf
theorem Inv.call' {s':Shared} {ch:List Addr} (I:Inv X pins O H s) (ho:s'.os=s.os) (u:Un (frs X.stack) ch H H' s.heap s'.heap) (hok:HOk X.prog X.w H' s'.heap) (hg:AllBare s'.gens) (hch:∀ b∈ch,(b∈X.ex\/X.s₀.heap.objs.size<=b)/\b≠X.env.locals/\(∀ x c,X.env.cells.lookup x=some c->c≠b)/\∀ p∈X.pn++pins,p.1≠b):Inv X pins O H' s':=by
 obtain ⟨h',g',d',t',o'⟩:=s';have e:o'=s.os:=ho;subst e;exact I.call (g':=g') (t':=t') (d':=d') u hok hg hch
end
abbrev XK:=Value->Option Addr->Hp->Prop
abbrev St:=List (Option V)
abbrev VK:=V->Hp->Prop
abbrev TE:=St->Hp->VK->Prop
abbrev TT:=St->Hp->(Bool->Hp->Prop)->Prop
abbrev TA:=St->Hp->(List V->Hp->Prop)->Prop
structure zeG where
 nx:St->Hp->Prop
 rt:VK
 bk:St->Hp->Prop:=fun _ _=>False
 ct:St->Hp->Prop:=fun _ _=>False
abbrev TS:=zeG->St->Hp->Prop
def EP(X:Cx)(pins:List (Addr×Obj))(O:St)(Q:VK)(u:Value)(s':Shared):Prop:=∃ v H',Inv X pins O H' s'/\xK v u/\Q v H'
def TP(X:Cx)(pins:List (Addr×Obj))(O:St)(Q:Bool->Hp->Prop)(b:Bool)(s':Shared):Prop:=∃ H',Inv X pins O H' s'/\Q b H'
def AP(X:Cx)(pins:List (Addr×Obj))(O:St)(Q:List V->Hp->Prop)(us:List Value)(s':Shared):Prop:=∃ vs H',Inv X pins O H' s'/\yA vs us/\Q vs H'
def SP(X:Cx)(pins:List (Addr×Obj))(D:zeG)(f:Flow)(s':Shared):Prop:= match f with
 | .next=>∃ O' H',Inv X pins O' H' s'/\D.nx O' H' | .brk=>∃ O' H',Inv X pins O' H' s'/\D.bk O' H' | .cont=>∃ O' H',Inv X pins O' H' s'/\D.ct O' H' | .ret u=>∃ v O' H',Inv X pins O' H' s'/\xK v u/\D.rt v H'
def PE(X:Cx)(e:Expr)(t:TE):Prop:= ∀ (pins:List (Addr×Obj))(s:Shared)(O:St)(H:Hp)(Q:VK),Inv X pins O H s->t O H Q->wpAny (model X.prog X.w) X.A (eval e X.env) (EP X pins O Q) X.xe s
def PT(X:Cx)(e:Expr)(t:TT):Prop:= ∀ (pins:List (Addr×Obj))(s:Shared)(O:St)(H:Hp)(Q:Bool->Hp->Prop),Inv X pins O H s->t O H Q->wpAny (model X.prog X.w) X.A (isTrue e X.env (eval e X.env)) (TP X pins O Q) X.xe s
def PW(X:Cx)(e:Expr)(t:TT):Prop:= ∀ (whole:Sem Value)(pins:List (Addr×Obj))(s:Shared)(O:St)(H:Hp)(Q:Bool->Hp->Prop),Inv X pins O H s->t O H Q->wpAny (model X.prog X.w) X.A (isTrue e X.env whole) (TP X pins O Q) X.xe s
theorem PW.pt{X:Cx}{e:Expr}{t:TT}(h:PW X e t):PT X e t:=h _
def PA(X:Cx)(es:List Expr)(t:TA):Prop:= ∀ (pos:Pos)(pins:List (Addr×Obj))(s:Shared)(O:St)(H:Hp)(Q:List V->Hp->Prop),Inv X pins O H s->t O H Q->wpAny (model X.prog X.w) X.A (spliced (backTo pos (starEach es X.env))) (AP X pins O Q) X.xe s
def PS(X:Cx)(st:Stmt)(t:TS):Prop:= ∀ (pins:List (Addr×Obj))(s:Shared)(O:St)(H:Hp)(D:zeG),Inv X pins O H s->t D O H->wpAny (model X.prog X.w) X.A (exec st X.env) (SP X pins D) X.xe s
def PSs(X:Cx)(st:List Stmt)(t:TS):Prop:= ∀ (pins:List (Addr×Obj))(s:Shared)(O:St)(H:Hp)(D:zeG),Inv X pins O H s->t D O H->wpAny (model X.prog X.w) X.A (execs st X.env) (SP X pins D) X.xe s
theorem thn{α:Type}{t:Sem α}{Q Q':α->Shared->Prop}{M:Model}{A:Around}{E:Value->Shared->Prop}{s:Shared}(h:wpAny M A t Q E s)(hQ:∀ a s,Q a s->Q' a s):wpAny M A t Q' E s:=_x h hQ fun _ _ x=>x
section
variable {X:Cx}
theorem bin{a b:Expr}{ta tb:TE}(ha:PE X a ta)(hb:PE X b tb){pins:List (Addr×Obj)}{s:Shared}{O:St}{H:Hp}{R:V->V->Hp->Prop}(I:Inv X pins O H s)(h:ta O H fun x H1=>tb O H1 fun y H2=>R x y H2) {α:Type}{Q:α->Shared->Prop}{f:Value->Value->Sem α} (hf:∀ v u s2 x y H2,Inv X pins O H2 s2->xK x v->xK y u->R x y H2->wpAny (model X.prog X.w) X.A (f v u) Q X.xe s2): wpAny (model X.prog X.w) X.A (eval a X.env) (fun v s₁=>wpAny (model X.prog X.w) X.A (eval b X.env) (fun u s₂=>wpAny (model X.prog X.w) X.A (f v u) Q X.xe s₂) X.xe s₁) X.xe s:=by
 refine thn (ha pins s O H _ I h) fun v s1 ⟨x,H1,I1,r1,q1⟩=>?_;refine thn (hb pins s1 O H1 _ I1 q1) fun u s2 ⟨y,H2,I2,r2,q2⟩=>?_;exact hf v u s2 x y H2 I2 r1 r2 q2
def zks(i:Nat):TE:=fun O H Q=>∃ v,O[i]? = some (some v)/\Q v H
def tC(v:V):TE:=fun _ H Q=>Q v H
theorem zdh{i:Nat}{x:Str}{pos:Pos}(hN:X.N[i]? = some x)(hv:Vis X.env.scope x)(hd:(x==("__debug__":Str))=false:=by decide)(hcd:(x==("__classdict__":Str))=false:=by decide):PE X (.Name x pos) (zks i):=by
 intro pins s O H Q I h;obtain ⟨v,e,h⟩:=h;obtain ⟨m,hn,hl⟩:=I.loc;obtain ⟨u,r,l⟩:=hl i x v hN e hv;have fin:EP X pins O Q u s:=⟨v,H,I,r,h⟩;rcases l with ⟨hk,hm⟩ | ⟨hk,c,hc,hcell⟩;·exact wpAny_Name (wpAny_loadName_local I.ok.kind hk hn hm fin) hd
 ·rcases hk with hk | hk;·exact wpAny_Name (wpAny_loadName_cell I.ok.kind hk hc hcell fin) hd
  ·exact wpAny_Name (wpAny_loadName_free I.ok.kind hk hc hcell fin hcd) hd
theorem zb1{i j pos}:PE X (.Constant (.int i) j pos) (tC (.int i)):=fun _ _ _ H _ I h=>wpAny_Constant_int ⟨.int i,H,I.tok _,⟨_,rfl⟩,h⟩
theorem ziF{b j pos}:PE X (.Constant (.bool b) j pos) (tC (.bl b)):=fun _ _ _ H _ I h=>Constant_bool ⟨.bl b,H,I,rfl,h⟩
theorem zgQ{j pos}:PE X (.Constant .none j pos) (tC .non):=fun _ _ _ H _ I h=>Constant_none ⟨.non,H,I,rfl,h⟩
theorem zdl{x j pos}:PE X (.Constant (.str x) j pos) (tC (.str x)):=fun _ _ _ H _ I h=>_b8 ⟨.str x,H,I.tok _,⟨_,rfl⟩,h⟩
def Gl(X:Cx)(x:Str):Prop:=X.env.kindOf x=some .globalImplicit
theorem z0r{E:Value->Shared->Prop}{pins:List (Addr×Obj)}{s:Shared}{O:St}{H:Hp}{x:Str}{u:Value}{pos:Pos}{Q:Value->Shared->Prop}(I:Inv X pins O H s)(hg:Gl X x)(hm:X.mg x=some u)(h:Q u s) (hd:(x==("__debug__":Str))=false:=by decide):wpAny (model X.prog X.w) X.A (eval (.Name x pos) X.env) Q E s:= Calls.Name_function_global I.ok.kind hg (Calls.loadGlobal_global (by rw [I.ok.glob];exact I.mod.glob.keeps I.bk) hm h) hd
theorem z3y{E:Value->Shared->Prop}{pins:List (Addr×Obj)}{s:Shared}{O:St}{H:Hp}{x:Str}{u:Value}{pos:Pos}{Q:Value->Shared->Prop}(I:Inv X pins O H s)(hg:Gl X x)(hm:X.mg x=none)(hv:bootBuiltins x=some u)(h:Q u s) (hn:x≠"__name__":=by decide)(hd:(x==("__debug__":Str))=false:=by decide):wpAny (model X.prog X.w) X.A (eval (.Name x pos) X.env) Q E s:=by
 obtain ⟨mb,h1,h2⟩:=I.mod.blt;exact Calls.Name_function_global I.ok.kind hg (Calls.loadGlobal_builtin (by rw [I.ok.glob];exact I.mod.glob.keeps I.bk) hm (by rw [I.ok.blt];exact h1.keeps I.bk) ((h2 x hn).trans hv) h) hd
theorem z28{x:Str}{v:V}{u:Value}{pos:Pos}(hg:Gl X x)(hm:X.mg x=some u)(r:xK v u)(hd:(x==("__debug__":Str))=false:=by decide):PE X (.Name x pos) (tC v):= fun _ _ _ H _ I h=>z0r I hg hm ⟨v,H,I,r,h⟩ hd
theorem z4e{x:Str}{v:V}{u:Value}{pos:Pos}(hg:Gl X x)(hm:X.mg x=none)(hv:bootBuiltins x=some u)(r:xK v u)(hn:x≠"__name__":=by decide)(hd:(x==("__debug__":Str))=false:=by decide):PE X (.Name x pos) (tC v):= fun _ _ _ H _ I h=>z3y I hg hm hv ⟨v,H,I,r,h⟩ hn hd
variable {a b:Expr}{ta tb:TE}{pos:Pos}
def PC(X:Cx)(op:CmpOp)(a b:Expr)(t:TE):Prop:= ∀ (pins:List (Addr×Obj))(s:Shared)(O:St)(H:Hp)(Q:VK),Inv X pins O H s->t O H Q-> wpAny (model X.prog X.w) X.A (eval a X.env) (fun v s₁=>wpAny (model X.prog X.w) X.A (eval b X.env) (fun u s₂=>wpAny (model X.prog X.w) X.A (compareOp op v u) (EP X pins O Q) X.xe s₂) X.xe s₁) X.xe s
def tB(t:TE):TT:=fun O H Q=>t O H fun x H1=>∃ c,x=.bl c/\Q c H1
theorem zjz{op:CmpOp}{t:TE}(h:PC X op a b t)(h1:behindInMarks op b=false:=by first | exact nobehind _ (by decide) (by decide) | rfl):PT X (.Compare a [op] [b] pos) (tB t):=by
 intro pins s O H Q I hw;refine wpAny_isTrue_Compare1 (thn (h pins s O H _ I hw) fun v s1 h1=>thn h1 fun u s2 h2=>thn h2 fun c s3 ⟨x,H1,I1,r1,q1⟩=>?_) h1;obtain ⟨d,rfl,q⟩:=q1;cases r1;exact _aA ⟨H1,I1,q⟩
theorem zh2{e:Expr}{t:TE}(h:PE X e t)(he:∀ whole,isTrue e X.env whole=(do let v <- whole;standAt e.pos;holding [v] (truthy v)):=by intro _;rfl):PT X e (tB t):=by
 intro pins s O H Q I hw;refine isTrue_plain (thn (h pins s O H _ I hw) fun v s1 ⟨x,H1,I1,r1,q1⟩=>?_) (he _);obtain ⟨d,rfl,q⟩:=q1;cases r1;exact _aA ⟨H1,I1,q⟩
variable {tA tB':TT}{uB:List Expr}
def zjD(t u:TT):TT:=fun O H Q=>t O H fun c H1=>if c=true then u O H1 Q else Q false H1
def tOr(t u:TT):TT:=fun O H Q=>t O H fun c H1=>if c=true then Q true H1 else u O H1 Q
def zku(t:TT):TT:=fun O H Q=>t O H fun c H1=>Q (!c) H1
theorem zeS(ha:PT X a tA):PW X (.BoolOp .And [a] pos) tA:=by
 intro wh pins s O H Q I h;refine isTrue_and (thn (ha pins s O H Q I h) fun c s1 e=>?_);cases c with
 | true=>exact isTrue_and_nil e | false=>exact e
theorem zgC(ha:PT X a tA):PW X (.BoolOp .Or [a] pos) tA:=by
 intro wh pins s O H Q I h;refine isTrue_or (thn (ha pins s O H Q I h) fun c s1 e=>?_);cases c with
 | false=>exact isTrue_or_nil e | true=>exact e
theorem zgA(ha:PT X a tA)(hb:PW X (.BoolOp .And (b::uB) pos) tB'):PW X (.BoolOp .And (a::b::uB) pos) (zjD tA tB'):=by
 intro wh pins s O H Q I h;refine isTrue_and (thn (ha pins s O H _ I h) fun c s1 ⟨H1,I1,q1⟩=>?_);cases c with
 | true=>exact hb wh pins s1 O H1 Q I1 q1 | false=>exact ⟨H1,I1,q1⟩
theorem ziG(ha:PT X a tA)(hb:PW X (.BoolOp .Or (b::uB) pos) tB'):PW X (.BoolOp .Or (a::b::uB) pos) (tOr tA tB'):=by
 intro wh pins s O H Q I h;refine isTrue_or (thn (ha pins s O H _ I h) fun c s1 ⟨H1,I1,q1⟩=>?_);cases c with
 | true=>exact ⟨H1,I1,q1⟩ | false=>exact hb wh pins s1 O H1 Q I1 q1
theorem zg6(ha:PT X a tA):PT X (.UnaryOp .Not a pos) (zku tA):=by
 intro pins s O H Q I h;exact isTrue_not (ha pins s O H (fun c H1=>Q (!c) H1) I h)
def zi7(ta tb:TE):TE:=fun O H Q=>ta O H fun x H1=>∃ c,x=.bl c/\if c=true then tb O H1 Q else Q (.bl false) H1
def ziA(ta:TE):TE:=fun O H Q=>ta O H fun x H1=>∃ c,x=.bl c/\Q (.bl (!c)) H1
theorem zgn{op}{t:TE}(h:PE X a t):PE X (.BoolOp op [a] pos) t:=fun pins s O H Q I hw=>BoolOp_one (h pins s O H Q I hw)
theorem zfH(ha:PE X a ta)(hb:PE X (.BoolOp .And (b::uB) pos) tb):PE X (.BoolOp .And (a::b::uB) pos) (zi7 ta tb):=by
 intro pins s O H Q I h;refine BoolOp_and (thn (ha pins s O H _ I h) fun v s1 ⟨x,H1,I1,r1,q1⟩=>?_);obtain ⟨c,rfl,q1⟩:=q1;cases r1;refine _aA ?_;cases c with
 | true=>exact hb pins s1 O H1 Q I1 q1 | false=>exact ⟨.bl false,H1,I1,rfl,q1⟩
theorem zh8(ha:PE X a ta):PE X (.UnaryOp .Not a pos) (ziA ta):=by
 intro pins s O H Q I h;refine UnaryOp_ (thn (ha pins s O H _ I h) fun v s1 ⟨x,H1,I1,r1,q1⟩=>?_);obtain ⟨c,rfl,q1⟩:=q1;cases r1;exact not_of (_aA ⟨.bl (!c),H1,I1,rfl,q1⟩)
def tIf(t:TT)(ta tb:TE):TE:=fun O H Q=>t O H fun c H1=>if c=true then ta O H1 Q else tb O H1 Q
theorem zc1{c:Expr}(hc:PT X c tA)(ha:PE X a ta)(hb:PE X b tb):PE X (.IfExp c a b pos) (tIf tA ta tb):=by
 intro pins s O H Q I h;refine wpAny_IfExp (thn (hc pins s O H _ I h) fun d s1 ⟨H1,I1,q1⟩=>?_);cases d with
 | true=>exact ha pins s1 O H1 Q I1 q1 | false=>exact hb pins s1 O H1 Q I1 q1
end
def SqL(K:W.Frag)(H:Hp)(a:Addr)(xs:List V):Prop:= Rd H a (.lst xs)\/ ∃ (o:Obj)(its:Array Value)(n:Nat),K.lookup a=some o/\o.cls=.type "list"/\o.dict=none/\o.data=.seq its n/\its.size<=sizeLine/\yA xs its.toList
def SqT(K:W.Frag)(H:Hp)(a:Addr)(xs:List V):Prop:= Rd H a (.tup xs)\/ ∃ (o:Obj)(its:Array Value)(n:Nat),K.lookup a=some o/\o.cls=.type "tuple"/\o.data=.seq its n/\its.size<=sizeLine/\yA xs its.toList
def zkB:Value->Option V
 | .none=>some .non | .bool b=>some (.bl b) | .int i _=>some (.int i) | .str x _=>some (.str x) | .bytes b _=>some (.byt b) | .float b _=>some (.flt b) | .ref a=>some (.ref a) | .type n=>some (.ty n) | _=>none
theorem xK.abs{x:V}{u:Value}(r:xK x u):zkB u=some x:=by cases x with
 | non=>cases r;rfl | bl _=>cases r;rfl | int _=>obtain ⟨t,rfl⟩:=r;rfl | str _=>obtain ⟨t,rfl⟩:=r;rfl | byt _=>obtain ⟨t,rfl⟩:=r;rfl | flt _=>obtain ⟨t,rfl⟩:=r;rfl | ref _=>cases r;rfl | ty _=>cases r;rfl
theorem xK.inj{x y:V}{u:Value}(r:xK x u)(q:xK y u):x=y:=_I (r.abs.symm.trans q.abs)
theorem yA.inj:∀ {xs ys:List V}{us:List Value},yA xs us->yA ys us->xs=ys
 | _,_,_,.nil,.nil=>rfl | _,_,_,.cons r t,.cons r' t'=>by rw [r.inj r',yA.inj t t']
section
variable {X:Cx}{pins:List (Addr×Obj)}{O:St}{H:Hp}{s:Shared}{a:Addr}{xs ys:List V}
theorem Inv.list(I:Inv X pins O H s)(h:SqL X.K H a xs):∃ its:List Value,yA xs its/\PlainL s.heap a its.toArray/\xs.length<=sizeLine:=by
 rcases h with h | ⟨o,its,n,hk,hc,hd,hs,hz,r⟩
 ·obtain ⟨z,its,n,r,e⟩:=h.ok I.hok;exact ⟨its,r,⟨_,n,e,rfl,rfl,rfl⟩,z⟩
 ·refine ⟨its.toList,r,⟨o,n,I.kIn a o hk,hc,hd,by simpa using hs⟩,?_⟩;have e:=r.length;simp only [_aY] at e;omega
theorem Inv.tuple(I:Inv X pins O H s)(h:SqT X.K H a xs):∃ its:List Value,yA xs its/\IsTup s.heap a its.toArray/\xs.length<=sizeLine:=by
 rcases h with h | ⟨o,its,n,hk,hc,hs,hz,r⟩
 ·obtain ⟨z,its,r,p⟩:=h.ok I.hok;exact ⟨its,r,p.tup,z⟩
 ·refine ⟨its.toList,r,⟨o,I.kIn a o hk,hc,n,by simpa using hs⟩,?_⟩;have e:=r.length;simp only [_aY] at e;omega
theorem Inv.list_inj(I:Inv X pins O H s)(h:SqL X.K H a xs)(h':SqL X.K H a ys):xs=ys:=by
 obtain ⟨its,r,⟨o,n,e,_,_,d⟩,_⟩:=I.list h;obtain ⟨its',r',⟨o',n',e',_,_,d'⟩,_⟩:=I.list h';rw [e] at e';cases e';rw [d] at d';injection d' with d1 _;have:its=its':=by simpa using _am Array.toList d1
 subst this;exact r.inj r'
theorem Inv.tuple_inj(I:Inv X pins O H s)(h:SqT X.K H a xs)(h':SqT X.K H a ys):xs=ys:=by
 obtain ⟨its,r,⟨o,e,_,n,d⟩,_⟩:=I.tuple h;obtain ⟨its',r',⟨o',e',_,n',d'⟩,_⟩:=I.tuple h';rw [e] at e';cases e';rw [d] at d';injection d' with d1 _;have:its=its':=by simpa using _am Array.toList d1
 subst this;exact r.inj r'
end
abbrev Cx.wish(X:Cx)(E:Value->Shared->Prop):Cx:={X with xe:=E}
abbrev Cx.nox(X:Cx):Cx:=X.wish fun _ _=>False
theorem Cx.Ok.wish{X:Cx}(ok:X.Ok)(E:Value->Shared->Prop):(X.wish E).Ok:= ⟨ok.mod,ok.kind,ok.glob,ok.blt,ok.above,ok.inj,ok.has,ok.cab,ok.hd,ok.frames,ok.stk,ok.exf,ok.bs,ok.bsz,ok.noex,ok.exfs,ok.funs,ok.frf⟩
theorem Cx.Ok.unwish{X:Cx}{E:Value->Shared->Prop}(ok:(X.wish E).Ok):X.Ok:= ⟨ok.mod,ok.kind,ok.glob,ok.blt,ok.above,ok.inj,ok.has,ok.cab,ok.hd,ok.frames,ok.stk,ok.exf,ok.bs,ok.bsz,ok.noex,ok.exfs,ok.funs,ok.frf⟩
section
variable {X:Cx}{pins:List (Addr×Obj)}{O:St}{H:Hp}{s:Shared}{E:Value->Shared->Prop}
theorem Inv.wish(I:Inv X pins O H s)(E:Value->Shared->Prop):Inv (X.wish E) pins O H s:=⟨I.ok.wish E,I.os,I.bare,I.base,I.loc,I.cell,I.free,I.freeC,I.pin,I.hok,I.len⟩
theorem Inv.unwish(I:Inv (X.wish E) pins O H s):Inv X pins O H s:=⟨I.ok.unwish,I.os,I.bare,I.base,I.loc,I.cell,I.free,I.freeC,I.pin,I.hok,I.len⟩
theorem SP.unwish{D:zeG}{f:Flow}{s':Shared}(h:SP (X.wish E) pins D f s'):SP X pins D f s':=by cases f with
 | next=>obtain ⟨O',H',I,q⟩:=h;exact ⟨O',H',I.unwish,q⟩ | brk=>obtain ⟨O',H',I,q⟩:=h;exact ⟨O',H',I.unwish,q⟩ | cont=>obtain ⟨O',H',I,q⟩:=h;exact ⟨O',H',I.unwish,q⟩ | ret u=>obtain ⟨v,O',H',I,r,q⟩:=h;exact ⟨v,O',H',I.unwish,r,q⟩
theorem PSs.nox{st:List Stmt}{t:TS}(h:PSs X.nox st t):PSs X st t:=fun pins s O H D I hw=> _x (h pins s O H D (I.wish _) hw) (fun _ _ q=>q.unwish) fun _ _ z=>False.elim z
end
section
variable {X:Cx}{st:Stmt}{uB:List Stmt}{t u:TS}{e:Expr}{te:TE}{pos:Pos}
def zii:TS:=fun D O H=>D.nx O H
def zjk(t u:TS):TS:=fun D O H=>t {D with nx:=u D} O H
theorem ze1:PSs X [] zii:=fun _ _ O H _ I h=>_bV ⟨O,H,I,h⟩
theorem zbq(h1:PS X st t)(h2:PSs X uB u):PSs X (st::uB) (zjk t u):=by
 intro pins s O H D I h;refine wpAny_execs_cons (thn (h1 pins s O H {D with nx:=u D} I h) fun f s1 q=>?_);cases f with
 | next=>
  obtain ⟨O',H',I',q⟩:=q;exact h2 pins s1 O' H' D I' q | ret v=>exact q | brk=>exact q | cont=>exact q
theorem ze0(h1:PS X st t):PSs X [st] t:=by
 intro pins s O H D I h;refine wpAny_execs_cons (thn (h1 pins s O H D I h) fun f s1 q=>?_);cases f with
 | next=>exact _bV q | ret v=>exact q | brk=>exact q | cont=>exact q
def zhx:TS:=fun D O H=>D.bk O H
theorem zbQ:PS X (.Break pos) zhx:=fun _ _ O H _ I h=>wpAny_Break ⟨O,H,I,h⟩
theorem Inv.quiet{pins:List (Addr×Obj)}{O:St}{H:Hp}{s:Shared}(I:Inv X pins O H s):interactive X.env=false:=by simp [interactive,I.ok.kind]
def ziD(te:TE):TS:=fun D O H=>te O H fun _ H1=>D.nx O H1
theorem zeO(he:PE X e te)(hs:swapsWith e none pos.line X.env=pure false:=by rfl):PS X (.Expr e pos) (ziD te):=by
 intro pins s O H D I h;exact wpAny_Expr_any (thn (he pins s O H _ I h) fun v s1 ⟨x,H1,I1,r1,q1⟩=>⟨O,H1,I1,q1⟩) I.quiet hs
def zk3(te:TE):TS:=fun D O H=>te O H D.rt
theorem zg8(he:PE X e te):PS X (.Return (some e) pos) (zk3 te):=by
 intro pins s O H D I h;exact wpAny_Return_some (thn (he pins s O H _ I h) fun v s1 ⟨x,H1,I1,r1,q1⟩=>⟨x,O,H1,I1,r1,q1⟩)
def zkw(c:TT)(t u:TS):TS:=fun D O H=>c O H fun b H1=>if b=true then t D O H1 else u D O H1
theorem zj5{c:Expr}{a b:List Stmt}{tc:TT}(hc:PT X c tc)(ha:PSs X a t)(hb:PSs X b u):PS X (.If c a b pos) (zkw tc t u):=by
 intro pins s O H D I h;refine wpAny_If (thn (hc pins s O H _ I h) fun d s1 ⟨H1,I1,q1⟩=>?_);cases d with
 | true=>exact ha pins s1 O H1 D I1 q1 | false=>exact hb pins s1 O H1 D I1 q1
def zfX:TS:=fun _ _ _=>False
theorem zbB:PS X st zfX:=fun _ _ _ _ _ _ h=>h.elim
end
abbrev TG:=V->St->Hp->(St->Hp->Prop)->Prop
abbrev TGs:=List V->St->Hp->(St->Hp->Prop)->Prop
def PG(X:Cx)(target:Expr)(t:TG):Prop:= ∀ (pins:List (Addr×Obj))(s:Shared)(O:St)(H:Hp)(v:V)(u:Value)(Q:St->Hp->Prop),Inv X pins O H s->xK v u->t v O H Q-> wpAny (model X.prog X.w) X.A (assign target X.env u) (fun _ s'=>∃ O' H',Inv X pins O' H' s'/\Q O' H') X.xe s
def PGs(X:Cx)(ts:List Expr)(t:TGs):Prop:= ∀ (pins:List (Addr×Obj))(s:Shared)(O:St)(H:Hp)(vs:List V)(us:List Value)(Q:St->Hp->Prop),Inv X pins O H s->yA vs us->t vs O H Q-> wpAny (model X.prog X.w) X.A (assignInOrder ((assignEach ts X.env).map (·.2)) us) (fun _ s'=>∃ O' H',Inv X pins O' H' s'/\Q O' H') X.xe s
abbrev ziI:=V->V->V->Hp->(Hp->Prop)->Prop
def zjw(X:Cx)(t:ziI):Prop:= ∀ (pins:List (Addr×Obj))(s:Shared)(O:St)(H:Hp)(o i v:V)(ov iv u:Value)(Q:Hp->Prop),Inv X pins O H s->xK o ov->xK i iv->xK v u->t o i v H Q-> wpAny (model X.prog X.w) X.A (setItem ov iv u) (fun _ s'=>∃ H',Inv X pins O H' s'/\Q H') X.xe s
abbrev TIp:=V->V->Hp->VK->Prop
def PIp(X:Cx)(op:Operator)(t:TIp):Prop:= ∀ (pins:List (Addr×Obj))(s:Shared)(O:St)(H:Hp)(x y:V)(v u:Value)(Q:VK),Inv X pins O H s->xK x v->xK y u->t x y H Q-> wpAny (model X.prog X.w) X.A (inplaceOp op v u) (EP X pins O Q) X.xe s
section
variable {X:Cx}{pos:Pos}
def z8o(i:Nat):TG:=fun v O H Q=>Q (O.set i (some v)) H
theorem yQ{i:Nat}{x:Str}(hN:X.N.Nodup)(hi:X.N[i]? = some x)(hx:Loc X.env.scope x)(hf:X.fn x=true\/X.env.scope.names.lookup x=some .local:=by first | exact .inl rfl | exact .inr rfl | assumption):PG X (.Name x pos) (z8o i):=by
 intro pins s O H v u Q I r h;exact _cp (jA I hN hi hx r (fun s' I'=>⟨_,H,I',h⟩) hf)
def zjn:TGs:=fun vs O H Q=>vs=[]/\Q O H
def zeE(t:TG)(u:TGs):TGs:=fun vs O H Q=>∃ v r,vs=v::r/\t v O H fun O' H'=>u r O' H' Q
theorem zaL:PGs X [] zjn:=by
 intro pins s O H vs us Q I r h;obtain ⟨e,h⟩:=h;subst e;cases r;exact assignInOrder_nil ⟨O,H,I,h⟩
theorem z1u{e:Expr}{es:List Expr}{t:TG}{u:TGs}(h1:PG X e t)(h2:PGs X es u) (hs:(assignEach (e::es) X.env).map (·.2)=assign e X.env::(assignEach es X.env).map (·.2):=by rfl):PGs X (e::es) (zeE t u):=by
 intro pins s O H vs us Q I r h;obtain ⟨v,vr,e1,h⟩:=h;subst e1;cases r with | cons r rr=>
  rw [hs];refine _ca (thn (h1 pins s O H _ _ _ I r h) fun _ s1 ⟨O1,H1,I1,q1⟩=>?_);exact h2 pins s1 O1 H1 _ _ Q I1 rr q1
def zjx(K:W.Frag)(n:Nat)(t:TGs):TG:=fun v O H Q=>∃ a xs,v=.ref a/\SqT K H a xs/\xs.length=n/\t xs O H Q
theorem zdx{es:List Expr}{k:Nat}{t:TGs}{n:Nat}(hc:X.calm=true)(h:PGs X es t) (hn:(assignEach es X.env).length=n:=by rfl)(hst:(assignEach es X.env).findIdx? (·.1)=none:=by rfl):PG X (.Tuple es k pos) (zjx X.K n t):=by
 intro pins s O H v u Q I r hw;obtain ⟨a,xs,e1,hq,hl,hw⟩:=hw;subst e1;cases r;obtain ⟨its,rv,ht,hz⟩:=I.tuple hq;refine assign_Tuple_tuple (I.ok.hd hc) ht (by simp [hn,<- hl,rv.length]) hst fun h' hx=>?_;have I1:Inv X pins O H {s with heap:=h'}:=I.kept (t':=s.toks) fun b o e=>hx b o (_u (_m e)) e;exact h pins _ O H xs _ Q I1 (by simpa using rv) hw
def zkp(to ti:TE)(t:ziI):TG:=fun v O H Q=>to O H fun o H1=>ti O H1 fun i H2=>t o i v H2 fun H3=>Q O H3
theorem zfD{o i:Expr}{to ti:TE}{t:ziI}(ho:PE X o to)(hi:PE X i ti)(hs:zjw X t) (ha:∀ v,assign (.Subscript o i pos) X.env v=(do
   let ov <- holding [v] (eval o X.env) let iv <- holding [v,ov] (eval i X.env)
   standAt pos
   holding [v,ov,iv] (setItem ov iv v)
   release [v,ov,iv] []):=by intro _;rfl):PG X (.Subscript o i pos) (zkp to ti t):=by
 intro pins s O H v u Q I r h;rw [ha];refine _a (_at (thn (ho pins s O H _ I h) fun ov s1 ⟨x,H1,I1,r1,q1⟩=>?_));refine _a (_at (thn (hi pins s1 O H1 _ I1 q1) fun iv s2 ⟨y,H2,I2,r2,q2⟩=>?_));refine _a (_bn (_a (_at (thn (hs pins s2 O H2 x y v ov iv u _ I2 r1 r2 r q2) fun _ s3 ⟨H3,I3,q3⟩=>?_))));exact wpAny_release ⟨O,H3,I3,q3⟩
def zi6(te:TE)(g:TG):TS:=fun D O H=>te O H fun x H1=>g x O H1 D.nx
theorem zdj{tg e:Expr}{te:TE}{g:TG}(he:PE X e te)(hg:PG X tg g)(hs:swapsWithSole [tg] e pos.line X.env=pure false:=by rfl)(hw:swappedStores [tg] e X.env=pure none:=by rfl) (h1:(assignEach [tg] X.env).map (·.2)=[assign tg X.env]:=by rfl):PS X (.Assign [tg] e pos) (zi6 te g):=by
 intro pins s O H D I h;refine wpAny_Assign_stores (thn (he pins s O H _ I h) fun v s1 ⟨x,H1,I1,r1,q1⟩=>?_) hs hw;rw [h1];exact thn (hg pins s1 O H1 x v _ I1 r1 q1) fun _ s2 q=>q
theorem zho{i:Nat}{x:Str}{e:Expr}{te:TE}{pos':Pos}(hN:X.N.Nodup)(hi:X.N[i]? = some x)(hx:Loc X.env.scope x)(he:PE X e te)(hs:swapsWith e (some (.Name x pos')) pos.line X.env=pure false:=by rfl)(hf:X.fn x=true\/X.env.scope.names.lookup x=some .local:=by first | exact .inl rfl | exact .inr rfl | assumption): PS X (.Assign [.Name x pos'] e pos) (zi6 te (z8o i)):=by
 intro pins s O H D I h;refine wpAny_Assign_Name (thn (he pins s O H _ I h) fun v s1 ⟨y,H1,I1,r1,q1⟩=>?_) hs;exact jA I1 hN hi hx r1 (fun s2 I2=>⟨_,H1,I2,q1⟩) hf
def zjM(i j:Nat)(ta:TA):TS:=fun D O H=>ta O H fun vs H1=>∃ v w,vs=[v,w]/\D.nx ((O.set i (some v)).set j (some w)) H1
theorem zgF {i j:Nat} {x y:Str} {a b:Expr} {ta:TA} {px py pt:Pos} {kt k2 pt2} (hc:X.calm=true) (hN:X.N.Nodup) (hi:X.N[i]? = some x) (hj:X.N[j]? = some y) (hij:i≠j) (hx:X.env.scope.names.lookup x=some .local) (hy:X.env.scope.names.lookup y=some .local) (ha:PA X [a,b] ta) (hw:swappedStores [.Tuple [.Name x px,.Name y py] kt pt] (.Tuple [a,b] k2 pt2) X.env=pure (some [x,y])) (hs:swapsWithSole [.Tuple [.Name x px,.Name y py] kt pt] (.Tuple [a,b] k2 pt2) pos.line X.env=pure false:=by rfl): PS X (.Assign [.Tuple [.Name x px,.Name y py] kt pt] (.Tuple [a,b] k2 pt2) pos) (zjM i j ta):=by
 intro pins s O H D I h;rw [exec_Assign_arm];refine _a (_bn ?_);rw [hs];refine _a (_g ?_);rw [_o (by decide)];refine _a (Tuple_ (thn (ha _ pins s O H _ I h) fun us s1 ⟨vs,H1,I1,r1,q1⟩=>?_));obtain ⟨v,w,e1,q1⟩:=q1;subst e1;obtain ⟨u1,u2,rfl,rv,rw'⟩:∃ u1 u2,us=[u1,u2]/\xK v u1/\xK w u2:=by cases r1 with | cons p q=> cases q with | cons p' q'=>
    cases q';exact ⟨_,_,rfl,p,p'⟩
 refine _M ?_ (by show 2<=sizeLine;decide);have I2:Inv X pins O H1 {s1 with heap:=s1.heap.push {cls:=.type "tuple",data:=.seq [u1,u2].toArray}}:=I1.kept (t':=s1.toks) fun b o e=>_b _ e;rw [hw];refine _a (_g ?_);show wpAny (model X.prog X.w) X.A (do rule "assign.swapped-stores";let items <- unpackItems (.ref s1.heap.objs.size) 2 none;assignInOrder [fun v=>bindName X.env y v,fun v=>bindName X.env x v] items.reverse;pure Flow.next) _ _ _;refine _a (_cb (_a (unpackItems_tuple (items:=#[u1,u2]) (I.ok.hd hc) (IsTup.new s1.heap _) fun h' hx'=>?_)));have I3:=I2.kept (h':=h') (t':=s1.toks) fun b o e=>hx' b o (_u (_m e)) e;show wpAny _ _ (assignInOrder [fun v=>bindName X.env y v,fun v=>bindName X.env x v] [u2,u1] >>= fun _=>pure Flow.next) _ _ _;refine _a (_ca (wpAny_bindName (jA I3 hN hj (.inl hy) rw' (fun s2 I4=>?_) (.inr hy))));refine _ca (wpAny_bindName (jA I4 hN hi (.inl hx) rv (fun s3 I5=>assignInOrder_nil (_g ?_)) (.inr hx)));rw [List.set_comm _ _ (_aE hij)] at I5;exact ⟨_,H1,I5,q1⟩
def zkA(i:Nat)(te:TE)(ti:TIp):TS:=fun D O H=>∃ x,O[i]? = some (some x)/\te O H fun y H1=>ti x y H1 fun z H2=>D.nx (O.set i (some z)) H2
theorem zhC{i:Nat}{x:Str}{e:Expr}{te:TE}{op:Operator}{ti:TIp}{pos':Pos}(hN:X.N.Nodup)(hi:X.N[i]? = some x)(hx:Loc X.env.scope x)(he:PE X e te)(ho:PIp X op ti)(hf:X.fn x=true\/X.env.scope.names.lookup x=some .local:=by first | exact .inl rfl | exact .inr rfl | assumption): PS X (.AugAssign (.Name x pos') op e pos) (zkA i te ti):=by
 intro pins s O H D I h;obtain ⟨v,e1,h⟩:=h;obtain ⟨m,hn,hl⟩:=I.loc;have vis:Vis X.env.scope x:=by rcases hx with k | k;exact .inl k;exact .inr (.inl k)
 obtain ⟨u,r,l⟩:=hl i x v hi e1 vis;refine wpAny_AugAssign_Name ?_;have go:wpAny (model X.prog X.w) X.A (eval e X.env) (fun w s₂=>wpAny (model X.prog X.w) X.A (inplaceOp op u w) (fun r s₃=>wpAny (model X.prog X.w) X.A (storeName X.env x r) (fun _=>SP X pins D .next) X.xe s₃) X.xe s₂) X.xe s:=by
  refine thn (he pins s O H _ I h) fun w s1 ⟨y,H1,I1,r1,q1⟩=>?_;refine thn (ho pins s1 O H1 v y u w _ I1 r r1 q1) fun z s2 ⟨zv,H2,I2,r2,q2⟩=>?_;exact jA I2 hN hi hx r2 (fun s3 I3=>⟨_,H2,I3,q2⟩) hf
 rcases l with ⟨hk,hm⟩ | ⟨hk,c,hc,hcell⟩;·exact wpAny_loadName_local I.ok.kind hk hn hm go
 ·rcases hk with hk | hk;·exact wpAny_loadName_cell I.ok.kind hk hc hcell go
  ·rcases hx with k | k
   ·have:X.env.scope.names.lookup x=some .free:=hk;rw [k] at this;cases this
   ·have:X.env.scope.names.lookup x=some .free:=hk;rw [k] at this;cases this
def ipI(f:Int->Int->Int):TIp:=fun x y H Q=>∃ i j,x=.int i/\y=.int j/\Q (.int (f i j)) H
theorem zhk:PIp X .Add (ipI fun i j=>i+j):=by
 intro pins s O H x y v u Q I r1 r2 h;obtain ⟨i,j,e1,e2,q⟩:=h;subst e1;subst e2;obtain ⟨t,rfl⟩:=r1;obtain ⟨t',rfl⟩:=r2;exact iadd_int ⟨.int _,H,I.tok _,⟨_,rfl⟩,q⟩
end
section
variable {X:Cx}{pos:Pos}
def zge(c:TT)(tb:TS):TS:=fun D O H=>∃ W:Nat->St->Hp->Prop,(∃ m,W m O H)/\∀ m O H,W m O H-> c O H fun b H1=>if b=true then ∃ N:St->Hp->Prop,(∀ O' H',N O' H'->∃ m',m'<m/\W m' O' H')/\tb {D with nx:=N,ct:=N,bk:=D.nx} O H1 else D.nx O H1
theorem zcB{c:Expr}{body:List Stmt}{tc:TT}{tb:TS}(hp:PassesOwn (model X.prog X.w) X.A X.env X.xe)(hc:PT X c tc)(hb:PSs X body tb):PS X (.While c body [] pos) (zge tc tb):=by
 intro pins s O H D I h;obtain ⟨W,⟨m0,w0⟩,turn⟩:=h;refine wpAny_While (codeAny_whileLoop (fun n s'=>∃ O' H',Inv X pins O' H' s'/\W n O' H') ?_ m0 ⟨O,H,I,w0⟩);rintro n s1 ⟨O1,H1,I1,w1⟩;refine _aN hp (thn (hc pins s1 O1 H1 _ I1 (turn n O1 H1 w1)) fun b s2 ⟨H2,I2,q2⟩=>?_);cases b with
 | true=>
  obtain ⟨N,hN,q2⟩:=q2;rw [_d rfl];refine _aN hp (thn (hb pins s2 O1 H2 _ I2 q2) fun f s3 q3=>?_);cases f with
  | next=>
   obtain ⟨O3,H3,I3,n3⟩:=q3;obtain ⟨m',hm,w3⟩:=hN O3 H3 n3;exact ⟨m',hm,O3,H3,I3,w3⟩ | cont=>
   obtain ⟨O3,H3,I3,n3⟩:=q3;obtain ⟨m',hm,w3⟩:=hN O3 H3 n3;exact ⟨m',hm,O3,H3,I3,w3⟩ | brk=>exact q3 | ret v=>exact q3
 | false=>
  rw [_o _N];exact _bV ⟨O1,H2,I2,q2⟩
end
structure It where
 go:Nat->Hp->Prop
 yld:Nat->Hp->V->Hp->Prop
 stop:Nat->Hp->Prop
def z2z(X:Cx)(pins:List (Addr×Obj))(H:Hp)(b:Addr):Prop:= H b=none/\b≠X.env.locals/\b∉X.fs/\(b∈X.ex\/X.s₀.heap.objs.size<=b)/\(∀ x c,X.env.cells.lookup x=some c->c≠b)/\∀ p∈X.pn++pins,p.1≠b
theorem Inv.fpOk{X:Cx}{pins:List (Addr×Obj)}{O:St}{H H':Hp}{s:Shared}{b:Addr}(I:Inv X pins O H s)(hb:s.heap.objs.size<=b)(hn:H' b=none):z2z X pins H' b:=by
 refine ⟨hn,_b3 (_q I.lt hb),I.nofs hb,.inr (_R I.sz hb),fun x c e z=>?_,fun p hp z=>?_⟩
 ·obtain ⟨v,q⟩:=I.cell x c e;exact absurd (_q q.lt (by rw [z];exact hb)) (_af _)
 ·exact absurd (_q (_m (I.pin p hp).1) (by rw [z];exact hb)) (_af _)
structure zbW(P:Program)(w:World)(K:W.Frag)(tg:Expr)(J:It)(fp:List Addr)(it:Addr)(tn:Nat->Heap->Prop):Prop where
 mem:it∈fp
 obj:∀ i h,tn i h->∀ b∈fp,∃ o,h.get? b=some o/\∀ v,o.data≠.cell v
 keep:∀ i h h',tn i h->(∀ b∈fp,∀ o,h.get? b=some o->h'.get? b=some o)->tn i h'
 item:∀ (X:Cx),X.prog=P->X.w=w->X.K=K->X.calm=true->∀ (i:Nat)(pins:List (Addr×Obj))(s:Shared)(O:St)(H:Hp)(E:Value->Shared->Prop),Inv X pins O H s->(∀ b∈fp,z2z X pins H b)->tn i s.heap->J.go i H-> wpAny (model P w) X.A (pyNext (.ref it)) (fun r s1=>∃ u,r=some u/\ wpAny (model P w) X.A (letOwnedTupleGo tg (.ref it) u) (fun _ s2=>∃ x H',Inv X pins O H' s2/\xK x u/\J.yld i H x H'/\tn (i+1) s2.heap/\∀ b∈fp,H' b=none) E s1) E s
 done:∀ (X:Cx),X.prog=P->X.w=w->X.K=K->X.calm=true->∀ (i:Nat)(pins:List (Addr×Obj))(s:Shared)(O:St)(H:Hp)(E:Value->Shared->Prop),Inv X pins O H s->(∀ b∈fp,z2z X pins H b)->tn i s.heap->J.stop i H-> wpAny (model P w) X.A (pyNext (.ref it)) (fun r s1=>r=none/\Inv X pins O H s1) E s
 self:∀ (A:Around)(i:Nat)(s:Shared)(Q:Value->Shared->Prop)(E:Value->Shared->Prop),tn i s.heap->Q (.ref it) s->wpAny (model P w) A (pyIter (.ref it)) Q E s
abbrev TI:=St->Hp->(It->Hp->Prop)->Prop
def PIE(X:Cx)(pins:List (Addr×Obj))(O:St)(tg:Expr)(R:It->Hp->Prop)(itv:Value)(s2:Shared):Prop:= ∃ (it:Addr)(fp:List Addr)(tn:Nat->Heap->Prop)(J:It)(H':Hp),itv=.ref it/\Inv X pins O H' s2/\zbW X.prog X.w X.K tg J fp it tn/\tn 0 s2.heap/\(∀ b∈fp,z2z X pins H' b)/\R J H'
def PI(X:Cx)(tg iter:Expr)(wi:TI):Prop:= ∀ (pins:List (Addr×Obj))(s:Shared)(O:St)(H:Hp)(R:It->Hp->Prop),Inv X pins O H s->wi O H R-> wpAny (model X.prog X.w) X.A (eval iter X.env) (fun v s1=>wpAny (model X.prog X.w) X.A (pyIter v) (PIE X pins O tg R) X.xe s1) X.xe s
theorem zbA{M:Model}{A:Around}{E:Value->Shared->Prop}{s:Shared}{tg:Expr}{it:Addr}{u:Value}{o:Obj}{n:String}{vs:Array Value}{Q:Unit->Shared->Prop}(ho:s.heap.get? it=some o)(hc:o.cls=.type n)(hd:o.data=.fields vs) (hn:["enumerate","zip","dict_itemiterator","dict_reverseitemiterator","odict_iterator","itertools.zip_longest","itertools.pairwise"].contains n=false)(hQ:Q () s):wpAny M A (letOwnedTupleGo tg (.ref it) u) Q E s:=by
  unfold letOwnedTupleGo;cases tg<;>first
    | exact _g hQ | (cases u<;>first
        | exact _g hQ
        | (refine _a (wpAny_load ho ?_);rw [hc,hd];show wpAny M A (if (["enumerate","zip","dict_itemiterator","dict_reverseitemiterator","odict_iterator","itertools.zip_longest","itertools.pairwise"].contains n&&vs[0]? == some (rawInt _))=true then _ else _) Q E s;rw [_o (by intro h;rw [hn,Bool.false_and] at h;cases h)];exact _g hQ))
def Itl(K:W.Frag)(a:Addr):It:= ⟨fun i H=>∃ xs x,SqL K H a xs/\xs[i]? = some x,fun i H x H'=>H'=H/\∀ xs,SqL K H a xs->xs[i]? = some x,fun i H=>∃ xs,SqL K H a xs/\xs.length<=i⟩
def Itt(K:W.Frag)(a:Addr):It:= ⟨fun i H=>∃ xs x,SqT K H a xs/\xs[i]? = some x,fun i H x H'=>H'=H/\∀ xs,SqT K H a xs->xs[i]? = some x,fun i H=>∃ xs,SqT K H a xs/\xs.length<=i⟩
def Itr(lo:Int)(n:Nat):It:=⟨fun i _=>i<n,fun i H x H'=>H'=H/\x=.int (lo+i),fun i _=>n<=i⟩
theorem zao{P:Program}{w:World}{K:W.Frag}{tg:Expr}(a it:Addr):zbW P w K tg (Itl K a) [it] it (fun i h=>h.IsListIter it a i) where
 mem:=by simp
 obj:=fun i h st b hb=>by
  have e:b=it:=by simpa using hb
  subst e;obtain ⟨o,e,c,d⟩:=st;exact ⟨o,e,fun v z=>by rw [d] at z;cases z⟩
 keep:=fun i h h' st k=>st.at fun o e=>k it (by simp) o e;item:=by
  intro X hP hw hK hc i pins s O H E I hf st hg;subst hP hw hK;obtain ⟨xs,x,hq,hx⟩:=hg;obtain ⟨its,rv,p,hz⟩:=I.list hq;obtain ⟨u,hu,ru⟩:=rv.get hx;obtain ⟨f0,f1,f2,f3,f4,f5⟩:=hf it (by simp);refine wpAny_pyNext_list_item st p.isList (x:=u) (by simpa using hu) fun h' st' sb=>?_;have I1:Inv X pins O H {s with heap:=h'}:=I.turned (t':=s.toks) (fun b o hb e=>(sb.2 b hb).trans e) f0 f1 f3 f4 f5;obtain ⟨o,e,c,d⟩:=id st';exact ⟨u,rfl,zbA (s:={s with heap:=h'}) e c d (by decide) ⟨x,H,I1,ru,⟨rfl,fun ys hy=>by rw [I.list_inj hy hq];exact hx⟩,st',fun b hb=>(hf b hb).1⟩⟩
 done:=by
  intro X hP hw hK hc i pins s O H E I hf st hg;subst hP hw hK;obtain ⟨xs,hq,hx⟩:=hg;obtain ⟨its,rv,p,hz⟩:=I.list hq;obtain ⟨f0,f1,f2,f3,f4,f5⟩:=hf it (by simp);have hl:=rv.length;exact wpAny_pyNext_list_end (I.ok.hd hc) st p.isList (by simp;omega) fun h' eb=>⟨rfl,I.turned (t':=s.toks) (fun b o hb e=>eb b o hb e) f0 f1 f3 f4 f5⟩
 self:=fun _ _ _ _ _ st h=>wpAny_pyIter_listiter st h
theorem z97 {P:Program} {w:World} {K:W.Frag} {tg:Expr} (a it:Addr):zbW P w K tg (Itt K a) [it] it (fun i h=>h.IsTupleIter it a i) where
 mem:=by simp
 obj:=fun i h st b hb=>by
  have e:b=it:=by simpa using hb
  subst e;obtain ⟨o,e,c,d⟩:=st;exact ⟨o,e,fun v z=>by rw [d] at z;cases z⟩
 keep:=fun i h h' st k=>st.at fun o e=>k it (by simp) o e;item:=by
  intro X hP hw hK hc i pins s O H E I hf st hg;subst hP hw hK;obtain ⟨xs,x,hq,hx⟩:=hg;obtain ⟨its,rv,p,hz⟩:=I.tuple hq;obtain ⟨u,hu,ru⟩:=rv.get hx;obtain ⟨f0,f1,f2,f3,f4,f5⟩:=hf it (by simp);refine wpAny_pyNext_tuple_item st (show s.heap.IsTuple a its.toArray from p) (x:=u) (by simpa using hu) fun h' st' sb=>?_;have I1:Inv X pins O H {s with heap:=h'}:=I.turned (t':=s.toks) (fun b o hb e=>(sb.2 b hb).trans e) f0 f1 f3 f4 f5;obtain ⟨o,e,c,d⟩:=id st';exact ⟨u,rfl,zbA (s:={s with heap:=h'}) e c d (by decide) ⟨x,H,I1,ru,⟨rfl,fun ys hy=>by rw [I.tuple_inj hy hq];exact hx⟩,st',fun b hb=>(hf b hb).1⟩⟩
 done:=by
  intro X hP hw hK hc i pins s O H E I hf st hg;subst hP hw hK;obtain ⟨xs,hq,hx⟩:=hg;obtain ⟨its,rv,p,hz⟩:=I.tuple hq;obtain ⟨f0,f1,f2,f3,f4,f5⟩:=hf it (by simp);have hl:=rv.length;exact wpAny_pyNext_tuple_end (I.ok.hd hc) st (show s.heap.IsTuple a its.toArray from p) (by simp;omega) fun h' eb=>⟨rfl,I.turned (t':=s.toks) (fun b o hb e=>eb b o hb e) f0 f1 f3 f4 f5⟩
 self:=fun _ _ _ _ _ st h=>wpAny_pyIter_tupleiter st h
theorem z8H {P:Program} {w:World} {K:W.Frag} {tg:Expr} (it:Addr) (lo:Int) (n:Nat):zbW P w K tg (Itr lo n) [it] it (fun i h=>IsRangeIter h it (lo+(i:Nat)*1) ((n:Int)-(i:Nat)) 1) where
 mem:=by simp
 obj:=fun i h st b hb=>by
  have e:b=it:=by simpa using hb
  subst e;exact ⟨_,st,fun v z=>by
   have z':Data.fields _=Data.cell v:=z;cases z'⟩
 keep:=fun i h h' st k=>k it (by simp) _ st;item:=by
  intro X hP hw hK hc i pins s O H E I hf st hg;subst hP hw hK;obtain ⟨f0,f1,f2,f3,f4,f5⟩:=hf it (by simp);have W:=Walks.range (prog:=X.prog) (w:=X.w) (I.ok.hd hc) it lo 1 n;refine W.item i s _ _ hg st fun v h' tk hv st' kk=>?_;obtain ⟨t,rfl⟩:=hv;have I1:Inv X pins O H {s with heap:=h',toks:=tk}:=I.turned (fun b o hb e=>kk b o (by simpa using hb) e) f0 f1 f3 f4 f5;refine ⟨_,rfl,zbA (s:={s with heap:=h',toks:=tk}) (n:="range_iterator") st' rfl rfl (by decide) ⟨.int (lo+i),H,I1,⟨t,?_⟩,⟨rfl,rfl⟩,st',fun b hb=>(hf b hb).1⟩⟩;rw [Int.mul_one]
 done:=by
  intro X hP hw hK hc i pins s O H E I hf st hg;subst hP hw hK;obtain ⟨f0,f1,f2,f3,f4,f5⟩:=hf it (by simp);exact wpAny_pyNext_range_end (I.ok.hd hc) st (by have:n<=i:=hg;omega) fun h' eb=>⟨rfl,I.turned (t':=s.toks) (fun b o hb e=>eb b o hb e) f0 f1 f3 f4 f5⟩
 self:=fun _ _ _ _ _ st h=>wpAny_pyIter_rangeiter st h
section
variable {X:Cx}{tg:Expr}
theorem zbr{pins:List (Addr×Obj)}{O:St}{H:Hp}{s:Shared}{R:It->Hp->Prop}{E:Value->Shared->Prop}{lo hi:Int}{t u v:Tok}{tk:Nat}(I:Inv X pins O H s)(h1:-(2 ^ 62)<=lo)(h2:lo<2 ^ 62)(h3:-(2 ^ 62)<=hi)(h4:hi<2 ^ 62) (q:R (Itr lo (hi-lo).toNat) H):wpAny (model X.prog X.w) X.A (pyIter (.ref s.heap.objs.size)) (PIE X pins O tg R) E {s with heap:=s.heap.push {cls:=.type "range",data:=.fields #[.int lo t,.int hi u,.int 1 v]},toks:=tk}:=by
 refine wpAny_pyIter_range (IsRange.new ..) (small_one h1 h2 h3 h4) ?_;have I1:Inv X pins O H {s with heap:=s.heap.push {cls:=.type "range",data:=.fields #[.int lo t,.int hi u,.int 1 v]},toks:=tk}:=I.kept fun b o e=>_b _ e;refine ⟨(s.heap.push {cls:=.type "range",data:=.fields #[.int lo t,.int hi u,.int 1 v]}).objs.size,[(s.heap.push {cls:=.type "range",data:=.fields #[.int lo t,.int hi u,.int 1 v]}).objs.size],_,_,H,rfl, I1.kept (t':=tk) fun b o e=>_b _ e,z8H _ lo (hi-lo).toNat,?_,fun b hb=>?_,q⟩
 ·have e1:lo+((0:Nat):Int)*1=lo:=by simp
  have e2:(((hi-lo).toNat:Nat):Int)-((0:Nat):Int)=Builtin.Range.rangeSize lo hi 1:=by rw [rangeSize_one];split<;>omega
  show IsRangeIter _ _ (lo+((0:Nat):Int)*1) ((((hi-lo).toNat:Nat):Int)-((0:Nat):Int)) 1;rw [e1,e2];exact _n _ rfl
 ·have e:b=(s.heap.push {cls:=.type "range",data:=.fields #[.int lo t,.int hi u,.int 1 v]}).objs.size:=by simpa using hb
  subst e;exact I1.fpOk (_j _) (I1.hok.fresh (_j _))
def zhY(ta:TA):TI:=fun O H R=>ta O H fun vs H1=>∃ j:Int,vs=[.int j]/\-(2 ^ 62)<=j/\j<2 ^ 62/\R (Itr 0 j.toNat) H1
theorem zb7{a:Expr}{ta:TA}{p pos:Pos}(hg:Gl X "range")(hm:X.mg "range"=none)(ha:PA X [a] ta)(hs:starEach [a] X.env=[(false,eval a X.env)]:=by rfl):PI X tg (.Call (.Name "range" p) [a] [] pos) (zhY ta):=by
 intro pins s O H R I h;refine Call_ (z3y I hg hm boot_range (_aF (thn (ha pos pins s O H _ I h) fun us s1 ⟨vs,H1,I1,r1,q1⟩=>?_) hs rfl));obtain ⟨j,e,q1,q2,q⟩:=q1;subst e;cases r1 with | cons r rr=>
  cases rr;obtain ⟨t,rfl⟩:=r;exact call_range_1 (zbr I1 (by omega) (by omega) q1 q2 (by simpa using q))
def zkn(wi:TI)(g:TG)(tb:TS):TS:=fun D O H=>wi O H fun J H1=>∃ W:Nat->Nat->St->Hp->Prop,(∃ m,W 0 m O H1)/\∀ i m O H,W i m O H-> (J.stop i H/\D.nx O H)\/(J.go i H/\∃ N:St->Hp->Prop,(∀ O' H',N O' H'->∃ m',m'<m/\W (i+1) m' O' H')/\∀ x H',J.yld i H x H'->g x O H' fun O2 H2=>tb {D with nx:=N,ct:=N,bk:=D.nx} O2 H2)
def z3v(fp:List Addr)(h:Heap):List (Addr×Obj):=fp.filterMap fun b=>(h.get? b).map fun o=>(b,o)
theorem vA{fp:List Addr}{h:Heap}{b:Addr}{o:Obj}(hb:b∈fp)(e:h.get? b=some o):(b,o)∈z3v fp h:=_cc.mpr ⟨b,hb,by rw [e];rfl⟩
theorem za8{fp:List Addr}{h:Heap}{p:Addr×Obj}(hp:p∈z3v fp h):p.1∈fp/\h.get? p.1=some p.2:=by
 obtain ⟨b,hb,e⟩:=_cc.mp hp;cases q:h.get? b with
 | none=>rw [q] at e;cases e | some o=>
  rw [q] at e;have e':(b,o)=p:=_I e;subst e';exact ⟨hb,q⟩
theorem Inv.pinned{pins:List (Addr×Obj)}{O:St}{H:Hp}{s:Shared}{fp:List Addr}(I:Inv X pins O H s)(hf:∀ b∈fp,z2z X pins H b)(ho:∀ b∈fp,∃ o,s.heap.get? b=some o/\∀ v,o.data≠.cell v):Inv X (pins++z3v fp s.heap) O H s:= I.pins_of fun p hp=>(_ag.mp hp).elim (fun z=>I.pin p (_z _ z)) fun z=>by
  obtain ⟨hb,e⟩:=za8 z;obtain ⟨f0,f1,f2,_⟩:=hf p.1 hb;obtain ⟨o,e',d⟩:=ho p.1 hb;rw [e] at e';cases e';exact ⟨e,f0,f1,f2,d⟩
theorem Inv.unpinned{pins pl:List (Addr×Obj)}{O:St}{H:Hp}{s:Shared}(I:Inv X (pins++pl) O H s):Inv X pins O H s:=I.pins_of fun p hp=>I.pin p (_z _ (_aQ _ hp))
theorem zgI{iter:Expr}{body:List Stmt}{wi:TI}{g:TG}{tb:TS}{pos:Pos}(hp:PassesOwn (model X.prog X.w) X.A X.env X.xe)(hc:X.calm=true)(hi:PI X tg iter wi)(hg:PG X tg g)(hb:PSs X body tb) (hs:∀ x,foldedSetIterable iter X.env x=pure x:=by intro _;rfl):PS X (.For tg iter body [] pos) (zkn wi g tb):=by
 intro pins s O H D I h;refine wpAny_For (thn (hi pins s O H _ I h) fun v s1 h1=>thn h1 fun itv s2 h2=>?_) hs;obtain ⟨it,fp,tn,J,H2,e,I2,T,st2,f2,W,⟨m0,w0⟩,turn⟩:=h2;subst e;have stat:∀ {H':Hp},(∀ b∈fp,H' b=none)->∀ b∈fp,z2z X pins H' b:=fun hn b hb=>⟨hn b hb,(f2 b hb).2⟩;refine codeAny_forLoop_any (fun n s'=>∃ i O' H',Inv X pins O' H' s'/\tn i s'.heap/\(∀ b∈fp,H' b=none)/\W i n O' H') ?_ m0 ⟨0,O,H2,I2,st2,fun b hb=>(f2 b hb).1,w0⟩;rintro n s3 ⟨i,O3,H3,I3,st3,fr3,w3⟩;rcases turn i n O3 H3 w3 with ⟨stop,qn⟩ | ⟨go,N,hN,step⟩
 ·refine _aN hp (thn (T.done X rfl rfl rfl hc i pins s3 O3 H3 X.xe I3 (stat fr3) st3 stop) fun r s4 ⟨hr,I4⟩=>?_);subst hr;exact _bV ⟨O3,H3,I4,qn⟩
 ·refine _aN hp (thn (T.item X rfl rfl rfl hc i pins s3 O3 H3 X.xe I3 (stat fr3) st3 go) fun r s4 ⟨u,hr,h4⟩=>?_);subst hr;refine _aN hp (thn h4 fun _ s5 ⟨x,H5,I5,r5,y5,st5,fr5⟩=>?_);have I5':=I5.pinned (stat fr5) (T.obj _ _ st5);refine _aN hp (thn (hg _ s5 O3 H5 x u _ I5' r5 (step x H5 y5)) fun _ s6 ⟨O6,H6,I6,q6⟩=>?_);refine _aN hp (thn (hb _ s6 O6 H6 _ I6 q6) fun f s7 q7=>?_);have again:∀ {O7:St}{H7:Hp},Inv X (pins++z3v fp s5.heap) O7 H7 s7->N O7 H7->∃ m,m<n/\∃ i O' H',Inv X pins O' H' s7/\tn i s7.heap/\(∀ b∈fp,H' b=none)/\W i m O' H':=fun {O7 H7} I7 n7=>by
   obtain ⟨m',hm,w7⟩:=hN O7 H7 n7;refine ⟨m',hm,i+1,O7,H7,I7.unpinned,T.keep _ _ _ st5 fun b hb o e=>(I7.pin (b,o) (_z _ (_z _ (vA hb e)))).1,fun b hb=>?_,w7⟩;obtain ⟨o,e,d⟩:=T.obj _ _ st5 b hb;exact (I7.pin (b,o) (_z _ (_z _ (vA hb e)))).2.1
  cases f with
  | next=>obtain ⟨O7,H7,I7,n7⟩:=q7;exact again I7 n7 | cont=>obtain ⟨O7,H7,I7,n7⟩:=q7;exact again I7 n7 | brk=>obtain ⟨O7,H7,I7,q7⟩:=q7;exact ⟨O7,H7,I7.unpinned,q7⟩ | ret v=>obtain ⟨x7,O7,H7,I7,r7,q7⟩:=q7;exact ⟨x7,O7,H7,I7.unpinned,r7,q7⟩
end
abbrev R2:=V->V->Hp->VK->Prop
def OpR(X:Cx)(f:Value->Value->Sem Value)(r:R2):Prop:= ∀ (pins:List (Addr×Obj))(s:Shared)(O:St)(H:Hp)(x y:V)(v u:Value)(Q:VK),Inv X pins O H s->xK x v->xK y u->r x y H Q-> wpAny (model X.prog X.w) X.A (f v u) (EP X pins O Q) X.xe s
def UnR(X:Cx)(f:Value->Sem Value)(r:V->Hp->VK->Prop):Prop:= ∀ (pins:List (Addr×Obj))(s:Shared)(O:St)(H:Hp)(x:V)(v:Value)(Q:VK),Inv X pins O H s->xK x v->r x H Q-> wpAny (model X.prog X.w) X.A (f v) (EP X pins O Q) X.xe s
def xD(X:Cx)(f:Value)(r:List V->Hp->VK->Prop):Prop:= ∀ (pins:List (Addr×Obj))(s:Shared)(O:St)(H:Hp)(xs:List V)(us:List Value)(Q:VK),Inv X pins O H s->yA xs us->r xs H Q-> wpAny (model X.prog X.w) X.A (call f us) (EP X pins O Q) X.xe s
def tOp(r:R2)(ta tb:TE):TE:=fun O H Q=>ta O H fun x H1=>tb O H1 fun y H2=>r x y H2 Q
def tUn(r:V->Hp->VK->Prop)(ta:TE):TE:=fun O H Q=>ta O H fun x H1=>r x H1 Q
def rI(C:Int->Int->Prop)(g:Int->Int->V):R2:=fun x y H Q=>∃ i j,x=.int i/\y=.int j/\C i j/\Q (g i j) H
def rI0(g:Int->Int->V):R2:=fun x y H Q=>∃ i j,x=.int i/\y=.int j/\Q (g i j) H
def rU(g:Int->V):V->Hp->VK->Prop:=fun x H Q=>∃ i,x=.int i/\Q (g i) H
section
variable {X:Cx}{a b c:Expr}{ta tb tc:TE}{pos:Pos}
theorem zj3(ha:PE X a ta)(hb:PE X b tb){pins:List (Addr×Obj)}{s:Shared}{O:St}{H:Hp}{R:V->V->Hp->Prop}(I:Inv X pins O H s) (h:ta O H fun x H1=>tb O H1 fun y H2=>R x y H2){Q:Value->Shared->Prop}{f:Value->Value->Sem Value} (hf:∀ v u s2 x y H2,Inv X pins O H2 s2->xK x v->xK y u->R x y H2->wpAny (model X.prog X.w) X.A (f v u) Q X.xe s2): wpAny (model X.prog X.w) X.A (eval a X.env) (fun v s₁=>wpAny (model X.prog X.w) X.A (eval b X.env) (fun u s₂=>wpAny (model X.prog X.w) X.A (f v u) Q X.xe s₂) X.xe s₁) X.xe s:=by
 refine thn (ha pins s O H _ I h) fun v s1 ⟨x,H1,I1,r1,q1⟩=>?_;refine thn (hb pins s1 O H1 _ I1 q1) fun u s2 ⟨y,H2,I2,r2,q2⟩=>?_;exact hf v u s2 x y H2 I2 r1 r2 q2
theorem zhR{op:Operator}{r:R2}(ho:OpR X (binaryOp op) r)(ha:PE X a ta)(hb:PE X b tb):PE X (.BinOp a op b pos) (tOp r ta tb):=by
 intro pins s O H Q I h;exact wpAny_BinOp (zj3 ha hb I h fun v u s2 x y H2 I2 rx ry q=>ho pins s2 O H2 x y v u Q I2 rx ry q)
theorem zfa{op:UnaryOp}{r:V->Hp->VK->Prop}(ho:UnR X (unaryOp op) r)(ha:PE X a ta):PE X (.UnaryOp op a pos) (tUn r ta):=by
 intro pins s O H Q I h;exact UnaryOp_ (thn (ha pins s O H _ I h) fun v s1 ⟨x,H1,I1,r1,q1⟩=>ho pins s1 O H1 x v Q I1 r1 q1)
theorem opI {f:Value->Value->Sem Value} {C:Int->Int->Prop} {g:Int->Int->Int} (rule:∀ (i j:Int) (t u:Tok) (s:Shared) (Q:Value->Shared->Prop) (E:Value->Shared->Prop),C i j->Q (.int (g i j) s.toks) {s with toks:=s.toks+1}->wpAny (model X.prog X.w) X.A (f (.int i t) (.int j u)) Q E s): OpR X f (rI C fun i j=>.int (g i j)):=by
 intro pins s O H x y v u Q I rx ry h;obtain ⟨i,j,rfl,rfl,hc,q⟩:=h;obtain ⟨t,rfl⟩:=rx;obtain ⟨t',rfl⟩:=ry;exact rule i j t t' s _ _ hc ⟨.int (g i j),H,I.tok _,⟨_,rfl⟩,q⟩
theorem zjr {f:Value->Value->Sem Value} {g:Int->Int->Int} (rule:∀ (i j:Int) (t u:Tok) (s:Shared) (Q:Value->Shared->Prop) (E:Value->Shared->Prop),Q (.int (g i j) s.toks) {s with toks:=s.toks+1}->wpAny (model X.prog X.w) X.A (f (.int i t) (.int j u)) Q E s): OpR X f (rI0 fun i j=>.int (g i j)):=by
 intro pins s O H x y v u Q I rx ry h;obtain ⟨i,j,rfl,rfl,q⟩:=h;obtain ⟨t,rfl⟩:=rx;obtain ⟨t',rfl⟩:=ry;exact rule i j t t' s _ _ ⟨.int (g i j),H,I.tok _,⟨_,rfl⟩,q⟩
theorem zhN{f:Value->Value->Sem Value}{g:Int->Int->Bool} (rule:∀ (i j:Int)(t u:Tok)(s:Shared)(Q:Value->Shared->Prop)(E:Value->Shared->Prop),Q (.bool (g i j)) s->wpAny (model X.prog X.w) X.A (f (.int i t) (.int j u)) Q E s): OpR X f (rI0 fun i j=>.bl (g i j)):=by
 intro pins s O H x y v u Q I rx ry h;obtain ⟨i,j,rfl,rfl,q⟩:=h;obtain ⟨t,rfl⟩:=rx;obtain ⟨t',rfl⟩:=ry;exact rule i j t t' s _ _ ⟨.bl (g i j),H,I,rfl,q⟩
def zjT(i j:Int):Prop:=0<=j/\j<=1000000/\i.natAbs<2 ^ 64
theorem zgH:OpR X (binaryOp .Add) (rI0 fun i j=>.int (i+j)):=zjr fun _ _ _ _ _ _ _ q=>add_int q
theorem zfQ:OpR X (binaryOp .Sub) (rI0 fun i j=>.int (i-j)):=zjr fun _ _ _ _ _ _ _ q=>sub_int q
theorem zg2:OpR X (binaryOp .Mod) (rI (fun _ j=>0<j) fun i j=>.int (i % j)):=opI fun i j _ _ _ _ _ hc q=>by
 have h1:(0:Int)<j:=hc;exact mod_int' (by omega) (by rw [Int.fmod_eq_emod_of_nonneg i (by omega)];exact q)
theorem zh5:OpR X (binaryOp .Pow) (rI zjT fun i j=>.int (i ^ j.toNat)):=opI fun _ _ _ _ _ _ _ hc q=>pow_int_small hc.1 hc.2.1 hc.2.2 q
theorem unI {f:Value->Sem Value} {g:Int->Int} (rule:∀ (i:Int) (t:Tok) (s:Shared) (Q:Value->Shared->Prop) (E:Value->Shared->Prop),Q (.int (g i) s.toks) {s with toks:=s.toks+1}->wpAny (model X.prog X.w) X.A (f (.int i t)) Q E s): UnR X f (rU fun i=>.int (g i)):=by
 intro pins s O H x v Q I rx h;obtain ⟨i,rfl,q⟩:=h;obtain ⟨t,rfl⟩:=rx;exact rule i t s _ _ ⟨.int (g i),H,I.tok _,⟨_,rfl⟩,q⟩
theorem z9Y:UnR X (unaryOp .USub) (rU fun i=>.int (-i)):=unI fun _ _ _ _ _ q=>neg_int q
end
section
variable {X:Cx}{a b c:Expr}{ta tb tc:TE}{pos:Pos}
theorem zgj{pins:List (Addr×Obj)}{O:St}{H:Hp}{s:Shared}{Q:VK}{k k':Bool}(I:Inv X pins O H s)(q:Q (.bl k) H)(e:k=k'):EP X pins O Q (.bool k') s:=by
 subst e;exact ⟨.bl k,H,I,rfl,q⟩
theorem ziV:OpR X (compareOp .Lt) (rI0 fun i j=>.bl (decide (i<j))):=zhN fun _ _ _ _ _ _ _ q=>lt_int q
theorem zhT:OpR X (compareOp .LtE) (rI0 fun i j=>.bl (decide (i<=j))):=zhN fun _ _ _ _ _ _ _ q=>le_int q
theorem zin:OpR X (compareOp .Gt) (rI0 fun i j=>.bl (decide (j<i))):=zhN fun _ _ _ _ _ _ _ q=>gt_int q
theorem zix:OpR X (compareOp .GtE) (rI0 fun i j=>.bl (decide (j<=i))):=zhN fun _ _ _ _ _ _ _ q=>ge_int q
theorem zfF:OpR X (compareOp .Is) (fun x y H Q=>y=.non/\Q (.bl (decide (x=.non))) H):=by
 intro pins s O H x y v u Q I rx ry h;obtain ⟨rfl,q⟩:=h;cases ry;refine is_none_gen (zgj I q ?_);cases x<;>first
  | (cases rx;rfl) | (obtain ⟨t,rfl⟩:=rx;rfl)
theorem OpR.or{f:Value->Value->Sem Value}{r r':R2}(h:OpR X f r)(h':OpR X f r'):OpR X f (fun x y H Q=>r x y H Q\/r' x y H Q):=by
 intro pins s O H x y v u Q I rx ry q;rcases q with q | q;·exact h pins s O H x y v u Q I rx ry q
 ·exact h' pins s O H x y v u Q I rx ry q
theorem zdF(b:Expr){op:CmpOp}(h:op≠.In:=by decide)(h2:op≠.NotIn:=by decide):behindInMarks op b=false:=by
 have e1:(op==CmpOp.In)=false:=by cases op<;>first | rfl | exact absurd rfl h
 have e2:(op==CmpOp.NotIn)=false:=by cases op<;>first | rfl | exact absurd rfl h2
 cases b<;>simp [behindInMarks,e1,e2]
theorem zaO{op:CmpOp}{r:R2}(ho:OpR X (compareOp op) r)(ha:PE X a ta)(hb:PE X b tb)(hm:behindInMarks op b=false):PE X (.Compare a [op] [b] pos) (tOp r ta tb):=by
 intro pins s O H Q I h;exact wpAny_Compare1 (zj3 ha hb I h fun v u s2 x y H2 I2 rx ry q=>ho pins s2 O H2 x y v u Q I2 rx ry q) hm
def zgB(t:TE):TT:=fun O H Q=>t O H fun x H'=>∃ k,x=.bl k/\Q k H'
theorem zej{op:CmpOp}{r:R2}(ho:OpR X (compareOp op) r)(ha:PE X a ta)(hb:PE X b tb)(hm:behindInMarks op b=false):PT X (.Compare a [op] [b] pos) (zgB (tOp r ta tb)):=by
 intro pins s O H Q I h;refine wpAny_isTrue_Compare1 (thn (ha pins s O H _ I h) fun v s1 ⟨x,H1,I1,r1,q1⟩=>thn (hb pins s1 O H1 _ I1 q1) fun u s2 ⟨y,H2,I2,r2,q2⟩=> thn (ho pins s2 O H2 x y v u _ I2 r1 r2 q2) fun c s3 ⟨z,H3,I3,r3,k,e,q3⟩=>?_) hm;subst e;cases r3;exact _aA ⟨H3,I3,q3⟩
def zd5(r r':R2)(ta tb tc:TE):TE:=fun O H Q=>ta O H fun x H1=>tb O H1 fun y H2=>r x y H2 fun z H3=>∃ k,z=.bl k/\ (if k=true then tc O H3 fun w' H4=>r' y w' H4 Q else Q (.bl false) H3)
theorem zcf{op op':CmpOp}{r r':R2}(ho:OpR X (compareOp op) r)(ho':OpR X (compareOp op') r')(ha:PE X a ta)(hb:PE X b tb)(hc:PE X c tc) (hm:lastMarks [op,op'] [b,c]=false:=by with_unfolding_all rfl):PE X (.Compare a [op,op'] [b,c] pos) (zd5 r r' ta tb tc):=by
 intro pins s O H Q I h;refine Compare_chain (thn (ha pins s O H _ I h) fun v s1 ⟨x,H1,I1,r1,q1⟩=>chain_link (thn (hb pins s1 O H1 _ I1 q1) fun u s2 ⟨y,H2,I2,r2,q2⟩=> thn (ho pins s2 O H2 x y v u _ I2 r1 r2 q2) fun d s3 ⟨z,H3,I3,r3,k,e,q3⟩=>?_)) hm;subst e;cases r3;refine _aA ?_;cases k with
 | false=>exact ite_ff ⟨.bl false,H3,I3,rfl,q3⟩ | true=>exact ite_tt (chain_last (thn (hc pins s3 O H3 _ I3 q3) fun w' s4 ⟨z',H4,I4,r4,q4⟩=>ho' pins s4 O H4 y z' u w' Q I4 r2 r4 q4))
theorem z7I:(sizeLine:Nat)<2 ^ 63:=by rw [_au];decide
theorem z8B:OpR X (binaryOp .Add) (fun x y H Q=>∃ i j,x=.str i/\y=.str j/\i.length+j.length<=sizeLine/\Q (.str (i++j)) H):=by
 intro pins s O H x y v u Q I rx ry h;obtain ⟨i,j,rfl,rfl,hz,q⟩:=h;obtain ⟨t,rfl⟩:=rx;obtain ⟨t',rfl⟩:=ry;exact add_str (fun t' tk=>⟨.str (i++j),H,I.tok _,⟨_,rfl⟩,q⟩) hz
theorem vals1{x:V}{us:List Value}(r:yA [x] us):∃ u,us=[u]/\xK x u:=by cases r with | cons r1 r2=>cases r2;exact ⟨_,rfl,r1⟩
theorem vals2{x y:V}{us:List Value}(r:yA [x,y] us):∃ u w',us=[u,w']/\xK x u/\xK y w':=by cases r with | cons r1 r2=> cases r2 with | cons r3 r4=>cases r4;exact ⟨_,_,rfl,r1,r3⟩
theorem zap(hc:X.calm=true):xD X (.builtin "max") (fun xs H Q=>∃ i j,xs=[.int i,.int j]/\Q (.int (if j > i then j else i)) H):=by
 intro pins s O H xs us Q I r h;obtain ⟨i,j,rfl,q⟩:=h;obtain ⟨u,w',rfl,⟨t,rfl⟩,⟨t',rfl⟩⟩:=vals2 r;refine max_two_ints (I.ok.hd hc) fun h' tk k=>⟨_,H,I.kept k,?_,q⟩;by_cases hj:j > i;·rw [_d hj,_d hj];exact ⟨_,rfl⟩
 ·rw [_o hj,_o hj];exact ⟨_,rfl⟩
theorem z9u(hc:X.calm=true):xD X (.builtin "min") (fun xs H Q=>∃ i j,xs=[.int i,.int j]/\Q (.int (if j<i then j else i)) H):=by
 intro pins s O H xs us Q I r h;obtain ⟨i,j,rfl,q⟩:=h;obtain ⟨u,w',rfl,⟨t,rfl⟩,⟨t',rfl⟩⟩:=vals2 r;refine min_two_ints (I.ok.hd hc) fun h' tk k=>⟨_,H,I.kept k,?_,q⟩;by_cases hj:j<i;·rw [_d hj,_d hj];exact ⟨_,rfl⟩
 ·rw [_o hj,_o hj];exact ⟨_,rfl⟩
theorem zau:xD X (.type "int") (fun xs H Q=>(∃ i,xs=[.int i]/\Q (.int i) H)\/∃ k,xs=[.bl k]/\Q (.int (if k then 1 else 0)) H):=by
 intro pins s O H xs us Q I r h;rcases h with ⟨i,rfl,q⟩ | ⟨k,rfl,q⟩
 ·obtain ⟨u,rfl,t,rfl⟩:=vals1 r;exact call_int_int ⟨.int i,H,I,⟨_,rfl⟩,q⟩
 ·obtain ⟨u,rfl,r1⟩:=vals1 r;cases r1;exact call_int_bool ⟨.int (if k then 1 else 0),H,I.tok _,⟨_,rfl⟩,q⟩
end
structure zj9(h:Heap)(x dx C:Addr)(mA:Str->Option Value):Prop where
 obj:h.get? x=some (W.instObj C dx)
 ns:h.Ns1 dx mA
 ne:dx≠x
theorem zaM{h:Heap}{dx:Addr}{mA:Str->Option Value}(n:h.Ns1 dx mA):∃ od,h.get? dx=some od/\∀ name,W.lookIn name od=some (mA name):=by
 obtain ⟨o,es,ep,ho,hd,hk,_,hm⟩:=n;refine ⟨o,ho,fun name=>?_⟩;have e:=hm name;unfold nsFind findBy at e;rw [<- Array.find?_toList] at e;unfold W.lookIn;rw [hd];dsimp only;split
 ·rename_i y q;rw [q] at e;exact _am some e
 ·rename_i q;rw [q] at e;have a:es.toList.any (·.refKey)=false:=by
   rw [List.any_eq_false];intro y hy;obtain ⟨z,t,hkey⟩:=hk y (Array.mem_toList_iff.mp hy);simp [DictEntry.refKey,hkey]
  have a':¬ es.toList.any (·.refKey)=true:=by rw [a];exact _N
  rw [_o a'];exact _am some e
theorem zj9.look{h:Heap}{x dx C:Addr}{mA:Str->Option Value}(I:zj9 h x dx C mA):∃ od,W.InstAt h x (W.instObj C dx) C (some od)/\∀ name,W.lookIn name od=some (mA name):= let ⟨od,ho,hl⟩:=zaM I.ns;⟨od,⟨I.obj,rfl,rfl,ho⟩,hl⟩
section
variable {P:Program}{w:World}{H H':Hp}{h h':Heap}{a C dx:Addr}{fs fs':List (Str×V)}
theorem zaj(hok:HOk P w H h)(e:H a=some (.ins C dx fs)):∃ mA,zj9 h a dx C mA/\(∀ f,zjb (fs.lookup f) (mA f))/\PySem.Within mA (fs.map (·.1))/\fs.length<=1000/\H dx=some (.own a):=by
 obtain ⟨d,z,ne,ob,mA,n,r,q⟩:=(show xn P w H h a (.ins C dx fs) from hok a _ e);exact ⟨mA,⟨ob,n,ne⟩,r,q,z,d⟩
end
structure Cls(K:W.Frag)(C:Addr):Prop where
 pg:W.plainGet K C Str.empty=true
 hd:W.hasDictIn K C=true
 po:W.plainOver K C=true
 sa:W.findIn K (.ref C) "__setattr__"=some (some (.builtin "object.__setattr__"))
theorem Cls.get{K:W.Frag}{C:Addr}(c:Cls K C)(f:Str):W.plainGet K C f=true:=c.pg
section
variable {X:Cx}{pins:List (Addr×Obj)}{O:St}{H:Hp}{s:Shared}{A:Around}{E:Value->Shared->Prop}{Q:Value->Shared->Prop}{c:Value}{b:Bool}
inductive z6l(K:W.Frag)(H:Hp):V->Value->Prop where | non:z6l K H .non (.type "NoneType") | bl (x:Bool):z6l K H (.bl x) (.type "bool") | int (i:Int):z6l K H (.int i) (.type "int") | str (x:Str):z6l K H (.str x) (.type "str") | flt (x:UInt64):z6l K H (.flt x) (.type "float") | lst {a:Addr}{xs:List V}(e:H a=some (.lst xs)):z6l K H (.ref a) (.type "list") | frz {a:Addr}{o:Obj}{xs:List V}(e:H a=some (.frz o (.lst xs))):z6l K H (.ref a) (.type "list") | tup {a:Addr}{xs:List V}(e:H a=some (.tup xs)):z6l K H (.ref a) (.type "tuple") | dK {a:Addr}{kvs:List (Key×V)}(e:H a=some (.dK kvs)):z6l K H (.ref a) (.type "dict") | dT {a:Addr}{kvs:List (List Key×V)}(e:H a=some (.dT kvs)):z6l K H (.ref a) (.type "dict") | ins {a C dx:Addr}{fs:List (Str×V)}(e:H a=some (.ins C dx fs))(cl:Cls K C)(ha:W.findIn K (.ref C) "__class__"=some (some (.builtin "object.__class__"))) (hn:W.specialIn K (.builtin "object.__class__") "__get__"=some (some (.builtin "getset_descriptor.__get__")))(htk:W.takesIn K (.builtin "object.__class__")=some true) (hm:W.mroIn K C (.type "object")=some true):z6l K H (.ref a) (.ref C)
theorem za2 {x:V} {u t:Value} (I:Inv X pins O H s) (rx:xK x u) (ty:z6l X.K H x t) (e:W.kitOne X.K t c=some b) (h:∀ tk,Q (.bool b) {s with toks:=tk}): wpAny (model X.prog X.w) A (call (.builtin "isinstance") [u,c]) Q E s:=by cases ty with
 | non=>cases (show u=Value.none from rx);exact _aZ W.kitx_none I.kIn True.intro e (fun z=>nomatch z) h | bl y=>cases (show u=Value.bool y from rx);exact _aZ W.kitx_bool I.kIn True.intro e (fun z=>nomatch z) h | int i=>obtain ⟨t,q⟩:=(show ∃ t,u=Value.int i t from rx);cases q;exact _aZ W.kitx_int I.kIn True.intro e (fun z=>nomatch z) h | str y=>obtain ⟨t,q⟩:=(show ∃ t,u=Value.str y t from rx);cases q;exact _aZ W.kitx_str I.kIn True.intro e (fun z=>nomatch z) h | flt y=>obtain ⟨t,q⟩:=(show ∃ t,u=Value.float y t from rx);cases q;exact _aZ W.kitx_float I.kIn True.intro e (fun z=>nomatch z) h | @lst a xs ea=>
  cases (show u=Value.ref a from rx);obtain ⟨_,_,n,_,h1⟩:=(show xn X.prog X.w H s.heap a (.lst xs) from I.hok a _ ea);exact _aZ W.kitx_list I.kIn ⟨_,h1,rfl⟩ e (fun z=>nomatch z) h | @frz a ob xs ea=>
  cases (show u=Value.ref a from rx);obtain ⟨_,_,_,n,_,h1⟩:=(show xn X.prog X.w H s.heap a (.frz ob (.lst xs)) from I.hok a _ ea);exact _aZ W.kitx_list I.kIn ⟨_,h1,rfl⟩ e (fun z=>nomatch z) h | @tup a xs ea=>
  cases (show u=Value.ref a from rx);obtain ⟨_,_,_,p⟩:=(show xn X.prog X.w H s.heap a (.tup xs) from I.hok a _ ea);obtain ⟨o,h1,h2,_⟩:=p;exact _aZ W.kitx_tuple I.kIn ⟨o,h1,h2⟩ e (fun z=>nomatch z) h | @dK a kvs ea=>
  cases (show u=Value.ref a from rx);obtain ⟨_,_,vs,_,p⟩:=(show xn X.prog X.w H s.heap a (.dK kvs) from I.hok a _ ea);obtain ⟨o,es,ep,h1,h2,_⟩:=p;exact _aZ W.kitx_dict I.kIn ⟨o,h1,h2.1⟩ e (fun z=>nomatch z) h | @dT a kvs ea=>
  cases (show u=Value.ref a from rx);obtain ⟨_,_,xs,_,o,es,ep,h1,h2,_⟩:=(show xn X.prog X.w H s.heap a (.dT kvs) from I.hok a _ ea);exact _aZ W.kitx_dict I.kIn ⟨o,h1,h2.1⟩ e (fun z=>nomatch z) h | @ins a C dx fs ea cl ha hn htk hm=>
  cases (show u=Value.ref a from rx);obtain ⟨mA,Oo,_⟩:=zaj I.hok ea;obtain ⟨od,J,_⟩:=Oo.look;exact _aZ (W.kitx_own (cl.get _) cl.hd ha hn htk hm) I.kIn J e (fun z=>nomatch z) h
end
structure z0k(k:Nat)(A:Around):Prop where
 hd:A.handled=none
 dp:A.depth+3*k+5<recursionLimit
 un:A.units+16*k+200<cLine
 gd:A.guards=some []
theorem z0k.mono{j k:Nat}{A:Around}(r:z0k k A)(h:j<=k):z0k j A:=⟨r.hd,by have:=r.dp;omega,by have:=r.un;omega,r.gd⟩
theorem z0k.deeper{k:Nat}{A:Around}(r:z0k (k+1) A)(env:Env):z0k k (A.deeper env):= ⟨r.hd,by have:=r.dp;show A.depth+1+3*k+5<_;omega,by have:=r.un;show A.units+3+16*k+200<_;omega,r.gd⟩
theorem z0k.depth{k:Nat}{A:Around}(r:z0k k A):A.depth<recursionLimit:=by have:=r.dp;omega
theorem z0k.units{k:Nat}{A:Around}(r:z0k k A):A.units+64<cLine:=by have:=r.un;omega
def zjm:TA:=fun _ H Q=>Q [] H
def zig(ta:TE)(tr:TA):TA:=fun O H Q=>ta O H fun x H1=>tr O H1 fun xs H2=>Q (x::xs) H2
section
variable {X:Cx}{e:Expr}{es:List Expr}{te:TE}{t:TA}{pos:Pos}
theorem jc:PA X [] zjm:=fun _ _ _ _ H Q I h=>Calls.spliced_nil ⟨[],H,I,.nil,h⟩
theorem xM(ha:PE X e te)(hr:PA X es t)(hs:starEach (e::es) X.env=(false,eval e X.env)::starEach es X.env:=by rfl):PA X (e::es) (zig te t):=by
 intro pos pins s O H Q I h;rw [hs];show wpAny _ _ (spliced ((false,eval e X.env)::backTo pos (starEach es X.env))) _ _ s;refine Calls.spliced_cons (thn (ha pins s O H _ I h) fun u s1 ⟨x,H1,I1,r1,q1⟩=>?_);exact thn (hr pos pins s1 O H1 _ I1 q1) fun us s2 ⟨xs,H2,I2,r2,q2⟩=>⟨x::xs,H2,I2,.cons r1 r2,q2⟩
def zk4(t:TA):TE:=fun O H Q=>t O H fun xs H1=>xs.length<=sizeLine/\∀ p,H1 p=none->Q (.ref p) (upd H1 p (.tup xs))
def zjJ(t:TA):TE:=fun O H Q=>t O H fun xs H1=>xs.length<=sizeLine/\∀ p,H1 p=none->Q (.ref p) (upd H1 p (.lst xs))
theorem zd4{x1}(h:PA X es t):PE X (.Tuple es x1 pos) (zk4 t):=by
 intro pins s O H Q I hq;refine wpAny_Tuple_spliced (thn (h pos pins s O H _ I hq) fun us s1 ⟨xs,H1,I1,r,z,q⟩=>⟨by rw [<- r.length];exact z,?_⟩);have hf:H1 s1.heap.objs.size=none:=I1.hok.fresh (_j _);refine ⟨.ref s1.heap.objs.size,upd H1 s1.heap.objs.size (.tup xs),I1.laid (t':=s1.toks) (fun b u e=>_b _ e) (_j _) ?_,rfl,q _ hf⟩;exact ⟨z,us,r,⟨_,_n _ rfl,rfl,rfl,_,rfl⟩⟩
theorem zdG(h:PA X es t):PE X (.List es pos) (zjJ t):=by
 intro pins s O H Q I hq;refine wpAny_List_spliced (thn (h pos pins s O H _ I hq) fun us s1 ⟨xs,H1,I1,r,z,q⟩=>⟨by rw [<- r.length];exact z,?_⟩);have hf:H1 s1.heap.objs.size=none:=I1.hok.fresh (_j _);refine ⟨.ref s1.heap.objs.size,upd H1 s1.heap.objs.size (.lst xs),I1.laid (t':=s1.toks) (fun b u e=>_b _ e) (_j _) ?_,rfl,q _ hf⟩;exact ⟨z,us,0,r,_n _ rfl⟩
end
abbrev Sp:=List V->Hp->VK->XK->Prop
abbrev CXT:=List Env->Hp->Shared->XK->Value->Shared->Prop
structure zgo(P:Program)(w:World)(K:W.Frag)(mg:Str->Option Value)(base:Heap)(A:Around)(outer:List Env)(s:Shared)(H:Hp):Prop where
 frames:A.frames=some outer
 mod:Mod K mg base
 bs:∀ b o,base.get? b=some o->s.heap.get? b=some o/\H b=none
 bsz:base.objs.size<=s.heap.objs.size
 funs:s.heap.FunFrames base outer
 frf:∀ b∈frs outer,H b=none
 hok:HOk P w H s.heap
 bare:AllBare s.gens
def CE(outer:List Env)(P:Program)(w:World)(H:Hp)(s:Shared)(Q:VK)(u:Value)(s':Shared):Prop:= ∃ v H',s'.os=s.os/\AllBare s'.gens/\Un (frs outer) [] H H' s.heap s'.heap/\HOk P w H' s'.heap/\xK v u/\Q v H'
def CR(CX:CXT)(outer:List Env)(P:Program)(w:World)(H:Hp)(s:Shared)(Q:VK)(E:XK)(r:Result)(s':Shared):Prop:= match r with
 | .ok (.ret u)=>CE outer P w H s Q u s' | .ok _=>False | .error e=>CX outer H s E e s'
structure z47(P:Program)(w:World)(K:W.Frag)(mg:Str->Option Value)(base:Heap)(CX:CXT)(k:Nat)(f:Addr)(fd:FuncData)(ps:List Str)(sp:Sp):Prop where
 len:∀ vs H Q E,sp vs H Q E->vs.length=ps.length
 run:∀ (A:Around)(outer:List Env)(s:Shared)(H:Hp)(args:Args)(us:List Value)(vs:List V)(Q:VK)(E:XK),z0k k A->zgo P w K mg base A outer s H->BindsTo s fd args (ps.zip us)->yA vs us->sp vs H Q E-> codeAny (model P w) A (.call (.ref f) args) (CR CX outer P w H s Q E) s
theorem z47.mono{P:Program}{w:World}{K:W.Frag}{mg:Str->Option Value}{base:Heap}{CX:CXT}{j k:Nat}{f:Addr}{fd:FuncData}{ps:List Str}{sp:Sp}(F:z47 P w K mg base CX j f fd ps sp)(h:j<=k): z47 P w K mg base CX k f fd ps sp:=⟨F.len,fun A outer s H args us vs Q E hr=>F.run A outer s H args us vs Q E (hr.mono h)⟩
theorem z47.imp{P:Program}{w:World}{K:W.Frag}{mg:Str->Option Value}{base:Heap}{CX:CXT}{k:Nat}{f:Addr}{fd:FuncData}{ps:List Str}{sp sp':Sp}(F:z47 P w K mg base CX k f fd ps sp) (h:∀ vs H Q E,sp' vs H Q E->sp vs H Q E):z47 P w K mg base CX k f fd ps sp':= ⟨fun vs H Q E q=>F.len vs H Q E (h _ _ _ _ q),fun A outer s H args us vs Q E hr he hb hv hs=>F.run A outer s H args us vs Q E hr he hb hv (h _ _ _ _ hs)⟩
section
variable {X:Cx}{pins:List (Addr×Obj)}{O:St}{H:Hp}{s s':Shared}
theorem Inv.env0(I:Inv X pins O H s):zgo X.prog X.w X.K X.mg X.base X.A X.stack s H:= ⟨I.ok.frames,I.ok.mod,I.bs,_R I.ok.bsz I.sz,I.stack,I.stkFree,I.hok,I.bare⟩
theorem Inv.after {Q:VK} {u:Value} (I:Inv X pins O H s) (h:CE X.stack X.prog X.w H s Q u s'):EP X pins O Q u s':=by
 obtain ⟨v,H',os,bare,un,hok,r,q⟩:=h;obtain ⟨hh,g,d,t,os'⟩:=s';obtain rfl:os'=s.os:=os;exact ⟨v,H',I.call (h':=hh) (g':=g) (d':=d) (t':=t) (ch:=[]) un hok bare (fun b z=>absurd z (by simp)),r,q⟩
end
def ze9(sp:Sp)(dvs:List V)(E:XK)(t:TA):TE:=fun O H Q=>t O H fun vs H1=>sp (vs++dvs) H1 Q E
def Binds(K:W.Frag)(fd:FuncData)(ps:List Str)(ds:List Value):Prop:= ∀ (s:Shared)(us:List Value),K.In s.heap->(us++ds).length=ps.length->BindsTo s fd ⟨us,[]⟩ (ps.zip (us++ds))
theorem Binds.all{K:W.Frag}{fd:FuncData}{ps:List Str}(h:∀ us:List Value,us.length=ps.length->bindArgs fd ⟨us,[]⟩=pure (ps.zip us)):Binds K fd ps []:=fun s us _ hl=>by
 rw [_a8] at hl ⊢;exact .of_eq (h us hl)
def Passes(CX:CXT)(X:Cx)(E:XK):Prop:=∀ (pins:List (Addr×Obj))(O:St)(H:Hp)(s:Shared)(e:Value)(s':Shared),Inv X pins O H s->CX X.stack H s E e s'->X.xe e s'
section
variable {X:Cx}{CX:CXT}{k:Nat}{f C:Addr}{fd:FuncData}{ps:List Str}{sp:Sp}{dvs:List V}{ds:List Value}{E:XK}{x m:Str}{p pos apos:Pos}{e o:Expr}{es:List Expr}{ta:TE}{t:TA}
theorem zbe{pins:List (Addr×Obj)}{O:St}{H:Hp}{s:Shared}{Q:VK}{us:List Value}{vs:List V}(F:z47 X.prog X.w X.K X.mg X.base CX k f fd ps sp)(hr:z0k k X.A)(hb:Binds X.K fd ps ds)(hd:yA dvs ds)(hx:Passes CX X E) (I:Inv X pins O H s)(r:yA vs us)(h:sp (vs++dvs) H Q E):wpAny (model X.prog X.w) X.A (call (.ref f) us) (EP X pins O Q) X.xe s:=by
 have r2:yA (vs++dvs) (us++ds):=r.append hd;have hl:(us++ds).length=ps.length:=by rw [<- r2.length];exact F.len _ _ _ _ h
 refine wpAny_call (_cW (F.run X.A X.stack s H ⟨us,[]⟩ (us++ds) (vs++dvs) Q E hr I.env0 (hb s us I.kIn hl) r2 h) fun r s' hq=>?_);cases r with
 | error e=>exact hx pins O H s e s' I hq | ok fl=> cases fl with
  | ret u=>exact I.after hq | next=>exact False.elim hq | brk=>exact False.elim hq | cont=>exact False.elim hq
theorem zeb (F:z47 X.prog X.w X.K X.mg X.base CX k f fd ps sp) (hr:z0k k X.A) (hg:Gl X x) (hm:X.mg x=some (.ref f)) (hk:W.keepIn X.K (.ref f)=true) (hb:Binds X.K fd ps ds) (hd:yA dvs ds) (hx:Passes CX X E) (ha:PA X (e::es) t) (hdb:(x==("__debug__":Str))=false:=by decide) (he:starEach (e::es) X.env=(false,eval e X.env)::starEach es X.env:=by rfl) (hpl:(backTo pos (starEach es X.env)).any (·.1)=false:=by rfl): PE X (.Call (.Name x p) (e::es) [] pos) (ze9 sp dvs E t):=by
 intro pins s O H Q I h;refine _ar (z0r I hg hm ?_ hdb);refine W.callWith_K (h₀:=X.base) I.ok.mod.kin hk (thn (ha pos pins s O H _ I h) fun us s1 ⟨vs,H1,I1,r,q⟩=>⟨I1.kIn,?_⟩) he hpl;exact zbe F hr hb hd hx I1 r q
theorem zbm(F:z47 X.prog X.w X.K X.mg X.base CX k f fd ps sp)(hr:z0k k X.A)(hg:Gl X x)(hm:X.mg x=some (.ref f))(hk:W.keepIn X.K (.ref f)=true)(hb:Binds X.K fd ps ds)(hd:yA dvs ds)(hx:Passes CX X E) (hdb:(x==("__debug__":Str))=false:=by decide):PE X (.Call (.Name x p) [] [] pos) (ze9 sp dvs E zjm):=by
 intro pins s O H Q I h;refine _ar (z0r I hg hm ?_ hdb);exact W.callWith_K0 I.kIn hk (zbe (us:=[]) F hr hb hd hx I .nil h)
end
structure zt(N P:List Str)(sc:Scope):Prop where
 kind:sc.kind=.function
 co:sc.isCoroutine=false
 gen:sc.isGenerator=false
 nd:N.Nodup
 pre:N.take P.length=P
 par:∀ x∈P,sc.names.lookup x=some .local\/sc.names.lookup x=some .cell
 nofree:∀ y∈sc.names,y.2≠.free
theorem z5D{kindOf:Str->Option NameKind}{x:Str}:∀ {binds:List (Str×Value)}{m:Str->Option Value},(∀ v,(x,v)∉binds)->bindL kindOf binds m x=m x
 | [],_,_=>rfl | (n,v)::r,m,h=>by
  unfold bindL;rw [z5D fun w hw=>h w (_t _ hw)];split
  ·have:x≠n:=by rintro rfl;exact h v _F
   simp [this]
  ·rfl
theorem z6f{kindOf:Str->Option NameKind}{x:Str}:∀ {binds:List (Str×Value)}{m:Str->Option Value},(∀ v,(x,v)∉binds)->bindC kindOf binds m x=m x
 | [],_,_=>rfl | (n,v)::r,m,h=>by
  unfold bindC;rw [z6f fun w hw=>h w (_t _ hw)];split;·rfl
  ·have:x≠n:=by rintro rfl;exact h v _F
   simp [this]
theorem z5d{kindOf:Str->Option NameKind}{x:Str}{v:Value}:∀ {P:List Str}{vs:List Value}{i:Nat}{m:Str->Option Value},P.Nodup->P[i]? = some x->vs[i]? = some v->kindOf x=some .local-> bindL kindOf (P.zip vs) m x=some v
 | [],_,_,_,_,h,_,_=>by simp at h | _::_,[],_,_,_,_,h,_=>by simp at h | p::P,w::vs,0,m,nd,h1,h2,hk=>by
  simp at h1 h2;subst h1;subst h2;show bindL kindOf ((p,w)::P.zip vs) m p=_;unfold bindL;rw [z5D fun v hv=>(_bW.mp nd).1 (_bs hv).1,_d hk];simp | p::P,w::vs,i+1,m,nd,h1,h2,hk=>by
  show bindL kindOf ((p,w)::P.zip vs) m x=_;unfold bindL;exact z5d (i:=i) (_bW.mp nd).2 (by simpa using h1) (by simpa using h2) hk
theorem z69{kindOf:Str->Option NameKind}{x:Str}{v:Value}:∀ {P:List Str}{vs:List Value}{i:Nat}{m:Str->Option Value},P.Nodup->P[i]? = some x->vs[i]? = some v->kindOf x≠some .local-> bindC kindOf (P.zip vs) m x=some v
 | [],_,_,_,_,h,_,_=>by simp at h | _::_,[],_,_,_,_,h,_=>by simp at h | p::P,w::vs,0,m,nd,h1,h2,hk=>by
  simp at h1 h2;subst h1;subst h2;show bindC kindOf ((p,w)::P.zip vs) m p=_;unfold bindC;rw [z6f fun v hv=>(_bW.mp nd).1 (_bs hv).1,_o hk];simp | p::P,w::vs,i+1,m,nd,h1,h2,hk=>by
  show bindC kindOf ((p,w)::P.zip vs) m x=_;unfold bindC;exact z69 (i:=i) (_bW.mp nd).2 (by simpa using h1) (by simpa using h2) hk
def start(N:List Str)(vs:List V):St:=vs.map some++List.replicate (N.length-vs.length) none
def z0F(CX:CXT)(P:Program)(w:World)(K:W.Frag)(mg:Str->Option Value)(base:Heap)(N:List Str)(qual:Str)(scope:Scope)(f:Addr)(cd:Value)(A:Around)(outer:List Env)(s:Shared)(H:Hp)(E:XK):Cx where
 prog:=P;w:=w;K:=K;mg:=mg;base:=base;A:=A.deeper (envOfC qual scope s.heap.objs.size f cd);N:=N;s₀:=s;H₀:=H;env:=envOfC qual scope s.heap.objs.size f cd;outer:=outer;stack:=envOfC qual scope s.heap.objs.size f cd::outer;ex:=[];calm:=A.handled.isNone;fn:=fun _=>true;pn:=[];xe:=fun e s'=>wpAny (model P w) (A.deeper (envOfC qual scope s.heap.objs.size f cd)) (leaving (envOfC qual scope s.heap.objs.size f cd) e) (fun _ s''=>CX outer H s E e s'') (fun e' s''=>CX outer H s E e' s'') s'
theorem z1p{sc:Scope}{n:Nat}{x:Str}(h:sc.names.lookup x=some .cell):∃ c,(cellsFrom n sc.names []).lookup x=some c:=by
 have q:=_cF sc.names n [] (.inl h);exact _bo.mp q
theorem z5y{CX:CXT}{P:Program}{w:World}{K:W.Frag}{mg:Str->Option Value}{base:Heap}{N ps:List Str}{qual:Str}{scope:Scope}{f:Addr}{cd:Value}{A:Around}{outer:List Env}{s s1:Shared}{H:Hp}{E:XK}{us:List Value}{vs:List V} (S:zt N ps scope)(e0:zgo P w K mg base A outer s H)(hl:vs.length=ps.length)(r:yA vs us) (x:InCallC s s.heap.objs.size (bindL (envOfC qual scope s.heap.objs.size f cd).kindOf (ps.zip us) fun _=>none) (cellsFrom (s.heap.objs.size+1) scope.names []) (bindC (envOfC qual scope s.heap.objs.size f cd).kindOf (ps.zip us) fun _=>none) s1): Inv (z0F CX P w K mg base N qual scope f cd A outer s H E) [] (start N vs) H s1:=by
 have hpl:ps.length<=N.length:=by have:=_am List.length S.pre;rw [_bM] at this;omega
 obtain ⟨h1,tk,rfl,hk⟩:=x.done;have noA:∀ b:Addr,b∉(z0F CX P w K mg base N qual scope f cd A outer s H E).ex:=fun b z=>absurd (show b∈([]:List Addr) from z) (by simp);refine ⟨⟨e0.mod,S.kind,rfl,rfl,_j _,fun y z c h1 h2=>?_,fun y hy=>?_,fun y c _ h=>?_,fun h=>Option.isNone_iff_eq_none.mp h,Around.frames_deeper e0.frames,.inr ⟨rfl,rfl⟩,fun b z=>absurd z (noA b),e0.bs,e0.bsz,fun b _ _=>noA b,fun b z=>absurd z (noA b),e0.funs,e0.frf⟩, rfl,e0.bare,Un.kept hk,⟨_,x.toInCall.ns,fun i y v h1 h2 h3=>?_⟩,fun y c h=>⟨_,x.cell y c h⟩,e0.hok.fresh (_j _),fun y c h=>?_,fun p hp=>absurd (show p∈([]:List (Addr×Obj)) from hp) (by simp),e0.hok.kept hk,?_⟩;·exact name_of_addr x.apart (_S h1) (_S h2)
 ·have hy:scope.names.lookup y=some .cell\/scope.names.lookup y=some .free:=hy;rcases hy with hy | hy;·exact z1p hy
  ·exact absurd rfl (S.nofree _ (_S hy))
 ·exact _cV (x.above y c (_S h))
 ·have hi:i<vs.length:=by
   unfold start at h2;by_cases hi:i<vs.length;·exact hi
   ·rw [_aJ (by simpa using hi)] at h2;rw [_a0] at h2;split at h2<;>cases h2
  have ha:vs[i]? = some v:=by
   unfold start at h2;rw [_v (by simpa using hi),_Z] at h2;cases e:vs[i]? with
   | none=>rw [e] at h2;cases h2 | some a=>rw [e] at h2;cases h2;rfl
  obtain ⟨u,hu,rv⟩:=r.get ha;have hp:ps[i]? = some y:=by rw [<- S.pre,_an (by omega)];exact h1
  have ndP:ps.Nodup:=by rw [<- S.pre];exact S.nd.sublist (_cq _ _)
  refine ⟨u,rv,?_⟩;rcases S.par y (_y hp) with k | k;·exact .inl ⟨k,z5d ndP hp hu k⟩
  ·obtain ⟨c,e⟩:=z1p (n:=s.heap.objs.size+1) k;refine .inr ⟨.inl k,c,e,?_⟩;have q:=x.cell y c e;rw [z69 ndP hp hu (by show scope.names.lookup y≠_;rw [k];decide)] at q;exact q
 ·exact e0.hok.fresh (_cV (x.above y c (_S h)))
 ·unfold start;show _=N.length;rw [_aK,_J,List.length_replicate];omega
theorem zfI {CX:CXT} {P:Program} {w:World} {K:W.Frag} {mg:Str->Option Value} {base:Heap} {k:Nat} {f:Addr} {name qual:Str} {params:Arguments} {body:List Stmt} {scope:Scope} {dV kV doc pm cdv ct oc:Value} {an od:Option Addr} {osl:Array (Option Value)} {N ps:List Str} {sp:Sp} (lk:K.lookup f=some ⟨oc,od,.func (W.fnOf name qual params body scope dV kV doc pm an cdv ct),osl⟩) (hcd:W.codeIn K cdv qual=true) (S:zt N ps scope) (len:∀ vs H Q E,sp vs H Q E->vs.length=ps.length) (hbody:∀ (A:Around) (outer:List Env) (s:Shared) (H:Hp) (vs:List V) (Q:VK) (E:XK),z0k k (A.deeper (envOfC qual scope s.heap.objs.size f cdv))->sp vs H Q E-> ∃ t,PSs (z0F CX P w K mg base N qual scope f cdv A outer s H E) body t/\t {nx:=fun _ H'=>Q .non H',rt:=Q} (start N vs) H): z47 P w K mg base CX (k+1) f (W.fnOf name qual params body scope dV kV doc pm an cdv ct) ps sp:=by
 refine ⟨len,fun A outer s H args us vs Q E hr e0 hb r hsp=>?_⟩;have hl:=len _ _ _ _ hsp;have KX:K.In s.heap:=e0.mod.kin.keeps fun b o e=>(e0.bs b o e).1;have lim:s.heap.NoLimit:=e0.mod.nolimit.keeps fun b o e=>(e0.bs b o e).1;have hkind:∀ y∈ps.zip us,scope.names.lookup y.1=some .local\/(scope.names.lookup y.1=some .cell/\((cellsFrom (s.heap.objs.size+1) scope.names []).lookup y.1).isSome=true):=fun ⟨n,v⟩ hy=>by
  rcases S.par n (_bs hy).1 with q | q;·exact .inl q
  ·exact .inr ⟨q,_cF _ _ _ (.inl q)⟩
 refine codeAny_call_function hr.depth (KX _ _ lk) rfl S.co S.gen rfl (W.codeRec_of KX hcd) (hb _ _ _ _ ?_);refine wpAny_newFunctionEnv_cells S.kind hkind fun env he s1 x=>?_;subst he;refine ⟨lim.keeps x.toInCall.keep,codeAny_func ?_⟩;obtain ⟨t,ht,hq⟩:=hbody A outer s H vs Q E (hr.deeper _) hsp;have I:Inv (z0F CX P w K mg base N qual scope f cdv A outer s H E) [] (start N vs) H s1:=z5y S e0 hl r x;refine _x (ht [] s1 (start N vs) H _ I hq) (fun fl s' hs=>?_) fun e s' hs=>hs;have fin:∀ {O':St} {H':Hp} {v:V} {u:Value},Inv (z0F CX P w K mg base N qual scope f cdv A outer s H E) [] O' H' s'->xK v u->Q v H'->CE outer P w H s Q u s':= fun {O' H' v u} J rv q=>⟨v,H',J.os,J.bare,J.base,J.hok,rv,q⟩;cases fl with
 | ret u=>
  obtain ⟨v,O',H',J,rv,q⟩:=hs;exact fin J rv q | next=>
  obtain ⟨O',H',J,q⟩:=hs;exact fin (v:=V.non) (u:=Value.none) J rfl q | brk=>
  obtain ⟨_,_,_,q⟩:=hs;exact False.elim q | cont=>
  obtain ⟨_,_,_,q⟩:=hs;exact False.elim q
section
variable {X:Cx}{x:Str}{p pos:Pos}{e:Expr}{es:List Expr}{t:TA}{id T:String}{r:List V->Hp->VK->Prop}
def tCB(r:List V->Hp->VK->Prop)(t:TA):TE:=fun O H Q=>t O H fun vs H1=>r vs H1 Q
theorem z07 (hc:xD X (.builtin id) r) (hg:Gl X x) (hm:X.mg x=none) (hv:bootBuiltins x=some (.builtin id)) (ha:PA X (e::es) t) (hn:x≠"__name__":=by decide) (hdb:(x==("__debug__":Str))=false:=by decide) (he:starEach (e::es) X.env=(false,eval e X.env)::starEach es X.env:=by rfl) (hpl:(backTo pos (starEach es X.env)).any (·.1)=false:=by rfl):PE X (.Call (.Name x p) (e::es) [] pos) (tCB r t):=by
 intro pins s O H Q I h;refine _ar (z3y I hg hm hv ?_ hn hdb);exact PyProof.Rows.callWith_builtin1 (thn (ha pos pins s O H _ I h) fun us s1 ⟨vs,H1,I1,r1,q1⟩=>hc pins s1 O H1 vs us Q I1 r1 q1) he hpl
theorem zaP (hc:xD X (.type T) r) (hg:Gl X x) (hm:X.mg x=none) (hv:bootBuiltins x=some (.type T)) (ha:PA X (e::es) t) (hn:x≠"__name__":=by decide) (hdb:(x==("__debug__":Str))=false:=by decide) (he:starEach (e::es) X.env=(false,eval e X.env)::starEach es X.env:=by rfl) (hpl:(backTo pos (starEach es X.env)).any (·.1)=false:=by rfl):PE X (.Call (.Name x p) (e::es) [] pos) (tCB r t):=by
 intro pins s O H Q I h;refine _ar (z3y I hg hm hv ?_ hn hdb);exact _aF (thn (ha pos pins s O H _ I h) fun us s1 ⟨vs,H1,I1,r1,q1⟩=>hc pins s1 O H1 vs us Q I1 r1 q1) he hpl
end
end L2
namespace HT
section
open PySem.SeqAt
open PySem.AutoSeq1 (wpAny_loadPart')
open PySem.MeetsSeq PySem.MeetsSeq2 PySem.MeetsSeq3
end
section
variable {prog:Program}{w:World}{A:Around}{E:Value->Shared->Prop}{s:Shared}
theorem zeR {t b:Addr} {vs ws:List Value} {Q:Value->Shared->Prop} (ht:IsTup s.heap t vs.toArray) (hb:IsTup s.heap b ws.toArray) (hv:vs≠[]) (h1:ws=[]->Q (.ref t) s) (h2:ws≠[]->Q (.ref s.heap.objs.size) {s with heap:=s.heap.push {cls:=.type "tuple",data:=.seq (vs++ws).toArray}}) (hsz:vs.length+ws.length<=sizeLine):wpAny (model prog w) A (binaryOp .Add (.ref t) (.ref b)) Q E s:=by
 obtain ⟨⟨cls,dd,data,sl⟩,ho,hc,n,hd⟩:=id ht;obtain ⟨⟨cls2,dd2,data2,sl2⟩,ho2,hc2,n2,hd2⟩:=id hb;simp only at hc hd hc2 hd2;subst hc hd hc2 hd2;have e:vs.toArray++ws.toArray=(vs++ws).toArray:=by simp
 by_cases hw:ws=[]
 ·exact concat_meets ⟨_,ho,rfl⟩ ⟨_,ho2,rfl⟩ _cG seq_tuple_add _bB _bw (_bp _ _) (tuple_addW1 t b vs.toArray ws.toArray n n2 dd dd2 sl sl2 (by simpa using hv) (by simp [hw])) ⟨ho,ho2,h1 hw⟩
 ·refine concat_meets ⟨_,ho,rfl⟩ ⟨_,ho2,rfl⟩ _cG seq_tuple_add _bB _bw (_bp _ _) (tuple_addW2 t b vs.toArray ws.toArray n n2 dd dd2 sl sl2 (by simpa using hv) (by simpa using hw) (by rw [_k,_k];exact hsz)) ⟨ho,ho2,?_⟩;rw [e];exact h2 hw
def sIx(n d:Nat):Option Int->Nat
 | none=>d | some v=>if v<0 then (v+(n:Int)).toNat else min v.toNat n
theorem z7B(n d:Nat):sIx n d none=d:=rfl
theorem za9(n d k:Nat):sIx n d (some (k:Int))=min k n:=by
 show (if (k:Int)<0 then ((k:Int)+(n:Int)).toNat else min (k:Int).toNat n)=min k n;rw [_o (by omega),_aR]
theorem zgy(n d:Nat)(hd:d<=n)(o:Option Int):sIx n d o<=n:=by cases o with
 | none=>exact hd | some v=>
  show (if v<0 then (v+(n:Int)).toNat else min v.toNat n)<=n;by_cases hv:v<0;·rw [_d hv];omega
  ·rw [_o hv];exact Nat.min_le_right _ _
theorem z9A(v:Int)(n d:Nat):(if v<0 then max (v+(n:Int)) 0 else min v (n:Int))=((sIx n d (some v):Nat):Int):=by
 show (if v<0 then max (v+(n:Int)) 0 else min v (n:Int))=(((if v<0 then (v+(n:Int)).toNat else min v.toNat n):Nat):Int);by_cases hv:v<0;·simp only [_d hv];omega
 ·simp only [_o hv];omega
theorem z8D(lo hi:Option Int)(n:Nat):Builtin.Slice.sliceAdjust lo hi 1 (n:Int)=(((sIx n 0 lo:Nat):Int),(sIx n n hi:Int)):=by
 have h1:¬ ((1:Int)<0):=by omega
 unfold Builtin.Slice.sliceAdjust;simp only [h1,_bq];refine Prod.ext ?_ ?_;·cases lo with
  | none=>rfl | some v=>exact z9A v n 0
 ·cases hi with
  | none=>rfl | some v=>exact z9A v n n
theorem z8V (i j:Nat):Builtin.Slice.slicePlaces (i:Int) (j:Int) 1=j-i:=by
 unfold Builtin.Slice.slicePlaces;have h1:(1:Int) > 0:=by omega
 simp only [h1,_A,Int.ediv_one];split<;>omega
theorem z3B{v:Value}{o:Option Int}{Q:Option Int->Shared->Prop}(p:IsPart v o)(h:Q o s):wpAny (model prog w) A (Builtin.Slice.slicePartIndex v) Q E s:=by cases p with
 | none=>exact _ce h | int i t=>exact slicePart_int h
theorem qK{sl:Addr}{vl vu:Value}{lo hi:Option Int}{n:Nat}{Q:Int×Int×Nat->Shared->Prop}(hs:s.heap.IsSliceOf sl vl vu .none)(pl:IsPart vl lo)(pu:IsPart vu hi) (h:Q (((sIx n 0 lo:Nat):Int),1,sIx n n hi-sIx n 0 lo) s):wpAny (model prog w) A (Builtin.Slice.sliceApplied (.ref sl) (pure (n:Int))) Q E s:=by
 obtain ⟨os,hos,hcs,hds⟩:=id hs;unfold Builtin.Slice.sliceApplied Builtin.Slice.sliceFields;refine _a (_a (_C hos hds (x:=vl) rfl (_a (_C hos hds (x:=vu) rfl (_a (_C hos hds (x:=.none) rfl (_g ?_)))))));refine _a (_ce ?_);show wpAny _ _ (if ((1:Int)==0)=true then _ else _) _ _ s;rw [_o (by decide)];refine _a (z3B pl (_a (z3B pu (_a (_g ?_)))));show wpAny _ _ (match Builtin.Slice.sliceAdjust lo hi 1 (n:Int) with | (lo,hi)=>pure (lo,(1:Int),Builtin.Slice.slicePlaces lo hi 1)) _ _ s;rw [z8D lo hi n];show wpAny _ _ (pure (((sIx n 0 lo:Nat):Int),(1:Int),Builtin.Slice.slicePlaces ((sIx n 0 lo:Nat):Int) (sIx n n hi:Int) 1)) _ _ s;rw [z8V];exact _g h
theorem zcc(xs:Array Value)(i k:Nat):((List.range k).filterMap fun (m:Nat)=>xs[((i:Int)+(m:Int)*1).toNat]?).toArray=((xs.toList.drop i).take k).toArray:=by
 have e:(fun (m:Nat)=>xs[((i:Int)+(m:Int)*1).toNat]?)=fun m=>xs[i+m]? := by
  funext m;have:((i:Int)+(m:Int)*1).toNat=i+m:=by omega
  rw [this]
 rw [e];have:=pick_run xs i k;rw [List.filterMap_map] at this;have e2:((fun x=>xs[x]?) ∘ fun x=>i+x)=fun m=>xs[i+m]? := rfl;rw [e2] at this;rw [this]
theorem z0h {t sl:Addr} {items:Array Value} {vl vu:Value} {lo hi:Option Int} {Q:Value->Shared->Prop} (ht:IsTup s.heap t items) (hs:s.heap.IsSliceOf sl vl vu .none) (pl:IsPart vl lo) (pu:IsPart vu hi) (hw:¬ (sIx items.size 0 lo=0/\sIx items.size items.size hi=items.size)) (h:Q (.ref s.heap.objs.size) {s with heap:=s.heap.push {cls:=.type "tuple",data:=.seq ((items.toList.drop (sIx items.size 0 lo)).take (sIx items.size items.size hi-sIx items.size 0 lo)).toArray}}) (hsz:items.size<=sizeLine):wpAny (model prog w) A (getItem (.ref t) (.ref sl)) Q E s:=by
 have htake:sizeOk (.seq ((items.toList.drop (sIx items.size 0 lo)).take (sIx items.size items.size hi-sIx items.size 0 lo)).toArray):=by
  show ((items.toList.drop (sIx items.size 0 lo)).take (sIx items.size items.size hi-sIx items.size 0 lo)).toArray.size<=sizeLine;rw [_k,_bM,_bN,_aY];omega
 have hj:sIx items.size items.size hi<=items.size:=zgy _ _ (_j _) hi;obtain ⟨os,hos,hcs,hds⟩:=id hs;have hTs:s.TypeIs (.ref sl) "slice":=⟨os,hos,hcs⟩;unfold getItem;try with_reducible refine _at ?_
 first | refine _a (_g ?_) | skip
 refine _a (_cr ht.typeIs (by decide) ?_);refine _a (_O (name:=Str.ofString "__getitem__") ht.typeIs _B (_U _B ht.typeIs _b1 ?_ (_cf _ _)));show wpAny _ _ (Builtin.Tuple.tupleItemsOf (.ref t) >>= _) _ _ s;refine _a (tupleItemsOf_ ht ?_);refine _a (_b4 hTs ?_);rw [_d (by decide)];refine _a (qK hs pl pu ?_);have hno:¬ ((((sIx items.size 0 lo:Nat):Int)==0&&(1:Int)==1&&(sIx items.size items.size hi-sIx items.size 0 lo)==items.size)=true):=by
  intro q;rw [_D,_D] at q;have q1:((sIx items.size 0 lo:Nat):Int)=0:=eq_of_beq q.1.1;have q2:sIx items.size items.size hi-sIx items.size 0 lo=items.size:=eq_of_beq q.2;exact hw ⟨by omega,by omega⟩
 show wpAny _ _ (if (((sIx items.size 0 lo:Nat):Int)==0&&(1:Int)==1&&(sIx items.size items.size hi-sIx items.size 0 lo)==items.size)=true then _ else _) _ _ s;rw [_o hno,zcc];first
  | exact _a (m:=Builtin.Tuple.tupleExact _) (_M (_g ⟨_,rfl,_g h⟩) htake) | exact _a (m:=Builtin.Tuple.tupleExact _) (_M (_a (_g (_g ⟨_,rfl,_g h⟩))) htake) | exact _a (_a (m:=Builtin.Tuple.tupleExact _) (_M (_g (_g ⟨_,rfl,_g h⟩)) htake)) | exact _a (_a (m:=Builtin.Tuple.tupleExact _) (_M (_g ⟨_,rfl,_g h⟩) htake))
end
end HT
namespace L2
abbrev TO:=St->Hp->(Option Int->Hp->Prop)->Prop
def PO(X:Cx)(e:Option Expr)(t:TO):Prop:= ∀ (pins:List (Addr×Obj))(s:Shared)(O:St)(H:Hp)(Q:Option Int->Hp->Prop),Inv X pins O H s->t O H Q-> wpAny (model X.prog X.w) X.A (evalPart e X.env) (fun u s'=>∃ o H',Inv X pins O H' s'/\IsPart u o/\Q o H') X.xe s
def zff:TO:=fun _ H Q=>Q none H
def zi9(t:TE):TO:=fun O H Q=>t O H fun x H1=>∃ i,x=.int i/\Q (some i) H1
section
variable {X:Cx}{e:Expr}{te:TE}{lo hi:Option Expr}{tl th:TO}{pos p2:Pos}
theorem za5:PO X none zff:=by
 intro pins s O H Q I h;rw [_cx];exact _g ⟨none,H,I,.none,h⟩
theorem zeQ(h:PE X e te):PO X (some e) (zi9 te):=by
 intro pins s O H Q I hw;rw [evalPart_some];refine thn (h pins s O H _ I hw) fun u s1 ⟨x,H1,I1,r1,q1⟩=>?_;obtain ⟨i,rfl,q⟩:=q1;obtain ⟨t,rfl⟩:=r1;exact ⟨some i,H1,I1,.int i t,q⟩
def SlR(X:Cx)(r:V->Option Int->Option Int->Hp->VK->Prop):Prop:= ∀ (pins:List (Addr×Obj))(s:Shared)(O:St)(H:Hp)(x:V)(v vl vu:Value)(lo hi:Option Int)(sl:Addr)(Q:VK),Inv X pins O H s->xK x v->s.heap.IsSliceOf sl vl vu .none->IsPart vl lo->IsPart vu hi->r x lo hi H Q-> ∃ T id,typeLookup (.type T) "__getitem__"=pure (some (.builtin id))/\s.TypeIs v T/\wpAny (model X.prog X.w) X.A (getItem v (.ref sl)) (EP X pins O Q) X.xe s
theorem SlR.or{r r':V->Option Int->Option Int->Hp->VK->Prop}(h:SlR X r)(h':SlR X r'):SlR X (fun x lo hi H Q=>r x lo hi H Q\/r' x lo hi H Q):=by
 intro pins s O H x v vl vu lo hi sl Q I rx hs pl pu q;rcases q with q | q;·exact h pins s O H x v vl vu lo hi sl Q I rx hs pl pu q
 ·exact h' pins s O H x v vl vu lo hi sl Q I rx hs pl pu q
def tSl(r:V->Option Int->Option Int->Hp->VK->Prop)(te:TE)(tl th:TO):TE:=fun O H Q=>te O H fun x H1=>tl O H1 fun l H2=>th O H2 fun u H3=>r x l u H3 Q
theorem z7O{r:V->Option Int->Option Int->Hp->VK->Prop}(hr:SlR X r)(he:PE X e te)(hl:PO X lo tl)(hu:PO X hi th):PE X (.Subscript e (.Slice lo hi none p2) pos) (tSl r te tl th):=by
 intro pins s O H Q I h;refine Subscript_ (thn (he pins s O H _ I h) fun v s1 ⟨x,H1,I1,r1,q1⟩=>?_);refine wpAny_Slice (thn (hl pins s1 O H1 _ I1 q1) fun vl s2 ⟨l,H2,I2,pl,q2⟩=>thn (hu pins s2 O H2 _ I2 q2) fun vu s3 ⟨u,H3,I3,pu,q3⟩=>?_);rw [_cx];refine _g ?_;have I4:Inv X pins O H3 {s3 with heap:=s3.heap.push {cls:=.type "slice",data:=.fields #[vl,vu,.none]}}:=I3.kept (t':=s3.toks) fun b ob q=>_b _ q;obtain ⟨T,id,hT,ht,hg⟩:=hr pins {s3 with heap:=s3.heap.push {cls:=.type "slice",data:=.fields #[vl,vu,.none]}} O H3 x v vl vu l u s3.heap.objs.size Q I4 r1 (_cg ..) pl pu q3;show wpAny (model X.prog X.w) X.A (subscriptTail e (.Slice lo hi none p2) v (.ref s3.heap.objs.size)) (EP X pins O Q) X.xe {s3 with heap:=s3.heap.push {cls:=.type "slice",data:=.fields #[vl,vu,.none]}};exact tail_any (ops:=[.ref s3.heap.objs.size,v]) ht hT hg (by with_unfolding_all rfl)
def zd3(xs:List V)(lo hi:Option Int):List V:=(xs.drop (HT.sIx xs.length 0 lo)).take (HT.sIx xs.length xs.length hi-HT.sIx xs.length 0 lo)
theorem z1E(xs:List V)(lo hi:Option Int):(zd3 xs lo hi).length<=xs.length:=by
 unfold zd3;rw [_bM,_bN];omega
def zkk(K:W.Frag):V->Option Int->Option Int->Hp->VK->Prop:=fun x lo hi H Q=>∃ a xs,x=.ref a/\SqT K H a xs/\ ¬ (HT.sIx xs.length 0 lo=0/\HT.sIx xs.length xs.length hi=xs.length)/\∀ p,H p=none->Q (.ref p) (upd H p (.tup (zd3 xs lo hi)))
theorem zgq:SlR X (zkk X.K):=by
 intro pins s O H x v vl vu lo hi sl Q I rx hs pl pu h;obtain ⟨a,xs,rfl,hx,hw,q⟩:=h;cases rx;obtain ⟨its,r,ht,hz⟩:=I.tuple hx;have hlen:its.toArray.size=xs.length:=by rw [_k];exact r.length.symm
 refine ⟨"tuple",_,_B.lookup,ht.typeIs,?_⟩;refine HT.z0h ht hs pl pu (by rw [hlen];exact hw) ?_ (by rw [hlen];exact hz);rw [hlen];refine ⟨.ref s.heap.objs.size,_,I.laid (t':=s.toks) (o:=.tup (zd3 xs lo hi)) (fun b ob q=>_b _ q) (_j _) ?_,rfl,q _ (I.hok.fresh (_j _))⟩;exact ⟨_R (z1E xs lo hi) hz,_,(r.drop (HT.sIx xs.length 0 lo)).take (HT.sIx xs.length xs.length hi-HT.sIx xs.length 0 lo),z9f.new _ _⟩
def zib(K:W.Frag):R2:=fun x y H Q=>∃ a b xs ys,x=.ref a/\y=.ref b/\SqT K H a xs/\SqT K H b ys/\xs≠[]/\xs.length+ys.length<=sizeLine/\ (ys=[]->Q (.ref a) H)/\(ys≠[]->∀ p,H p=none->Q (.ref p) (upd H p (.tup (xs++ys))))
theorem yA.nil_iff{xs:List V}{us:List Value}(r:yA xs us):us=[] ↔ xs=[]:=by cases r with
 | nil=>simp | cons _ _=>simp
theorem zeh:OpR X (binaryOp .Add) (zib X.K):=by
 intro pins s O H x y v u Q I rx ry h;obtain ⟨a,b,xs,ys,rfl,rfl,ha,hb,hx,hz,q1,q2⟩:=h;cases rx;cases ry;obtain ⟨its,r1,p1,_⟩:=I.tuple ha;obtain ⟨its2,r2,p2,_⟩:=I.tuple hb;refine HT.zeR p1 p2 (fun z=>hx (r1.nil_iff.mp z)) (fun z=>⟨.ref a,H,I,rfl,q1 (r2.nil_iff.mp z)⟩) (fun z=>?_) (by rw [<- r1.length,<- r2.length];exact hz);refine ⟨.ref s.heap.objs.size,_,I.laid (t':=s.toks) (o:=.tup (xs++ys)) (fun b ob q=>_b _ q) (_j _) ?_,rfl,q2 (fun w=>z (r2.nil_iff.mpr w)) _ (I.hok.fresh (_j _))⟩;exact ⟨by rw [_aK];exact hz,_,r1.append r2,z9f.new _ _⟩
end
def ixN(n:Nat)(i:Int):Option Nat:=if 0<=i then (if i<n then some i.toNat else none) else if -(n:Int)<=i then some (i+n).toNat else none
def atI{α:Type}(xs:List α)(i:Int):Option α:=(ixN xs.length i).bind fun j=>xs[j]?
theorem z9T{n:Nat}{i:Int}{j:Nat}(h:ixN n i=some j):seqIndex? i n=some j/\j<n/\-(n:Int)<=i/\i<n:=by
 unfold ixN at h;by_cases h0:0<=i
 ·rw [_d h0] at h;by_cases h1:i<n
  ·rw [_d h1] at h;have e:i.toNat=j:=_I h;exact ⟨by rw [seqIndex_of h0 h1,e],by omega,by omega,h1⟩
  ·rw [_o h1] at h;cases h
 ·rw [_o h0] at h;by_cases h1:-(n:Int)<=i
  ·rw [_d h1] at h;have e:(i+n).toNat=j:=_I h;exact ⟨by rw [seqIndex_neg (by omega) h1,e],by omega,h1,by omega⟩
  ·rw [_o h1] at h;cases h
theorem z9G{α:Type}{xs:List α}{i:Int}{v:α}(h:atI xs i=some v):∃ j,seqIndex? i xs.length=some j/\xs[j]? = some v/\j<xs.length/\-(xs.length:Int)<=i/\i<xs.length:=by
 unfold atI at h;cases e:ixN xs.length i with
 | none=>rw [e] at h;cases h | some j=>
  rw [e] at h;obtain ⟨h1,h2,h3,h4⟩:=z9T e;exact ⟨j,h1,h,h2,h3,h4⟩
def z6R(b:Expr):Prop:=∀ o i,subscripted b false o i=operate [o,i] (getItem o i)
def IxR(X:Cx)(r:R2):Prop:= ∀ (value slice:Expr)(pins:List (Addr×Obj))(s:Shared)(O:St)(H:Hp)(x y:V)(v u:Value)(Q:VK),Inv X pins O H s->xK x v->xK y u->r x y H Q-> subscripted slice false v u=operate [v,u] (getItem v u)->wpAny (model X.prog X.w) X.A (subscriptTail value slice v u) (EP X pins O Q) X.xe s
def MtR (X:Cx) (id:String) (r:V->List V->Hp->VK->Prop):Prop:= ∀ (pins:List (Addr×Obj)) (s:Shared) (O:St) (H:Hp) (x:V) (xs:List V) (v:Value) (us:List Value) (Q:VK),Inv X pins O H s->xK x v->yA xs us->r x xs H Q-> wpAny (model X.prog X.w) X.A (call (.builtin id) (v::us)) (EP X pins O Q) X.xe s
section
variable {X:Cx}{a b:Expr}{ta tb:TE}{pos:Pos}
theorem IxR.or{r r':R2}(h:IxR X r)(h':IxR X r'):IxR X (fun x y H Q=>r x y H Q\/r' x y H Q):=by
 intro value slice pins s O H x y v u Q I rx ry q hs;rcases q with q | q;·exact h value slice pins s O H x y v u Q I rx ry q hs
 ·exact h' value slice pins s O H x y v u Q I rx ry q hs
theorem zgw{r:R2}(hr:IxR X r)(ha:PE X a ta)(hb:PE X b tb)(hs:z6R b):PE X (.Subscript a b pos) (tOp r ta tb):=by
 intro pins s O H Q I h;exact Subscript_ (zj3 ha hb I h fun v u s2 x y H2 I2 rx ry q=>hr a b pins s2 O H2 x y v u Q I2 rx ry q (hs _ _))
def zke(K:W.Frag):R2:=fun x y H Q=>∃ p xs i v,x=.ref p/\y=.int i/\SqL K H p xs/\atI xs i=some v/\Q v H
def zjE(K:W.Frag):R2:=fun x y H Q=>∃ p xs i v,x=.ref p/\y=.int i/\SqT K H p xs/\atI xs i=some v/\Q v H
theorem zep:IxR X (zke X.K):=by
 intro value slice pins s O H x y v u Q I rx ry h hs;obtain ⟨p,xs,i,z,rfl,rfl,hq,he,q⟩:=h;cases rx;obtain ⟨t,rfl⟩:=ry;obtain ⟨its,r,pl,hz⟩:=I.list hq;obtain ⟨j,h1,h2,h3,h4,h5⟩:=z9G he;obtain ⟨w,ew,rw'⟩:=r.get h2;have hl:=r.length;have hn:=z7I;have fin:EP X pins O Q w s:=⟨z,H,I,rw',q⟩;by_cases h0:0<=i
 ·have hj:i.toNat=j:=by
   rw [seqIndex_of h0 h5] at h1;exact _I h1
  exact item_listR pl.isList h0 (by omega) (by rw [hj];simpa using ew) fin hs
 ·have hj:(i+(its.toArray.size:Int)).toNat=j:=by
   rw [seqIndex_neg (by omega) h4] at h1;rw [_k,<- hl];exact _I h1
  exact _bC (x:=w) pl.isList.typeIs _cs.lookup (wpAny_getItem_list_neg (Q:=fun r s'=>r=w/\EP X pins O Q r s') pl.isList (by omega) (by rw [_k]<;>omega) (by omega) (by rw [hj];simpa using ew) ⟨rfl,fin⟩) hs
theorem zgM:IxR X (zjE X.K):=by
 intro value slice pins s O H x y v u Q I rx ry h hs;obtain ⟨p,xs,i,z,rfl,rfl,hq,he,q⟩:=h;cases rx;obtain ⟨t,rfl⟩:=ry;obtain ⟨its,r,pl,hz⟩:=I.tuple hq;obtain ⟨j,h1,h2,h3,h4,h5⟩:=z9G he;obtain ⟨w,ew,rw'⟩:=r.get h2;have hl:=r.length;have hn:=z7I;have fin:EP X pins O Q w s:=⟨z,H,I,rw',q⟩;exact _bC (x:=w) pl.typeIs slot_tuple_getitem.lookup (getItem_tuple (j:=j) (Q:=fun r s'=>r=w/\EP X pins O Q r s') pl (by omega) (by omega) (by rw [_k,<- hl];exact h1) (by simpa using ew) ⟨rfl,fin⟩) hs
theorem z8z (its:List Value) (n j:Nat) (u:Value):Obj.mapSeq (·.setIfInBounds j u) {cls:=.type "list",data:=.seq its.toArray n}={cls:=.type "list",data:=.seq (its.set j u).toArray n}:=by simp [Obj.mapSeq]
theorem Inv.lst{pins:List (Addr×Obj)}{O:St}{H:Hp}{s:Shared}{p:Addr}{xs:List V}(I:Inv X pins O H s)(h:H p=some (.lst xs)): ∃ (its:List Value)(n:Nat),yA xs its/\s.heap.get? p=some {cls:=.type "list",data:=.seq its.toArray n}/\xs.length<=sizeLine:=by
 obtain ⟨z,its,n,r,e⟩:=I.hok p _ h;exact ⟨its,n,r,e,z⟩
theorem Inv.lstUpd {pins:List (Addr×Obj)} {O:St} {H:Hp} {s:Shared} {p:Addr} {xs ys:List V} {its its':List Value} {n n':Nat} {f:Obj->Obj} (I:Inv X pins O H s) (h:H p=some (.lst xs)) (ho:s.heap.get? p=some {cls:=.type "list",data:=.seq its.toArray n}) (hf:f {cls:=.type "list",data:=.seq its.toArray n}={cls:=.type "list",data:=.seq its'.toArray n'}) (r:yA ys its') (hz:ys.length<=sizeLine) (t:Nat): Inv X pins O (upd H p (.lst ys)) {s with heap:=s.heap.update p f,toks:=t}:=by
 have e:(s.heap.update p f).get? p=some {cls:=.type "list",data:=.seq its'.toArray n'}:=by rw [_bI f ho (by rw [hf]<;>rfl),hf]
 refine I.write (x:=p) (e:=p) (by rw [h];trivial) (.inl rfl) (fun b u hb q=>(_a2 _ _ (_aE hb)).trans q) ⟨_,e⟩ ?_;exact ⟨hz,its',n',r,e⟩
def zi1:V->V->V->Hp->(Hp->Prop)->Prop:=fun o i v H Q=>∃ p xs k j,o=.ref p/\i=.int k/\H p=some (.lst xs)/\ixN xs.length k=some j/\Q (upd H p (.lst (xs.set j v)))
theorem set_list:zjw X zi1:=by
 intro pins s O H o i v ov iv u Q I ro ri rv h;obtain ⟨p,xs,k,j,rfl,rfl,hp,hj,q⟩:=h;cases ro;obtain ⟨t,rfl⟩:=ri;obtain ⟨its,n,r,ho,hz⟩:=I.lst hp;obtain ⟨h1,h2,h3,h4⟩:=z9T hj;have hl:=r.length;have hn:=z7I;have I':Inv X pins O (upd H p (.lst (xs.set j v))) {s with heap:=s.heap.update p (Obj.mapSeq (·.setIfInBounds j u))}:= I.lstUpd hp ho (z8z its n j u) (r.set rv j) (by rw [List.length_set];exact hz) s.toks;by_cases h0:0<=k
 ·have hk:k.toNat=j:=by
   rw [seqIndex_of h0 h4] at h1;exact _I h1
  exact W.ki_setAt ho h0 (by omega) (by rw [_k,<- hl];exact h4) (by rw [hk];exact ⟨_,I',q⟩)
 ·have hk:(k+(its.toArray.size:Int)).toNat=j:=by
   rw [seqIndex_neg (by omega) h3] at h1;rw [_k,<- hl];exact _I h1
  exact W.ki_setBack ho (by omega) (by rw [_k,<- hl];exact h3) (by omega) (by rw [hk];exact ⟨_,I',q⟩)
theorem z5G(lo hi:Option Int)(n:Nat):(sliceBounds lo hi none n).1=((HT.sIx n 0 lo:Nat):Int)/\(sliceBounds lo hi none n).2.1=(HT.sIx n n hi:Int)/\(sliceBounds lo hi none n).2.2=1:=by
 refine ⟨?_,?_,rfl⟩;·cases lo with
  | none=>simp [sliceBounds,HT.sIx] | some i=>
   simp only [sliceBounds,HT.sIx,_cH,show (1:Int) > 0 by decide,_A];by_cases h:i<0;·simp only [h,_A]<;>omega
   ·simp only [h,_bq]<;>omega
 ·cases hi with
  | none=>simp [sliceBounds,HT.sIx] | some i=>
   simp only [sliceBounds,HT.sIx,_cH,show (1:Int) > 0 by decide,_A];by_cases h:i<0;·simp only [h,_A]<;>omega
   ·simp only [h,_bq]<;>omega
theorem z3U(its:List Value)(lo hi:Option Int):slicePick its.toArray lo hi none=((its.drop (HT.sIx its.length 0 lo)).take (HT.sIx its.length its.length hi-HT.sIx its.length 0 lo)).toArray:=by
 obtain ⟨h1,h2,h3⟩:=z5G lo hi its.toArray.size;unfold slicePick;rw [h1,h2,h3];simp only [sliceRange_one,pick_run,_k]<;>rfl
def zjX(K:W.Frag):V->Option Int->Option Int->Hp->VK->Prop:=fun x lo hi H Q=>∃ a xs,x=.ref a/\SqL K H a xs/\∀ p,H p=none->Q (.ref p) (upd H p (.lst (zd3 xs lo hi)))
theorem zdU:SlR X (zjX X.K):=by
 intro pins s O H x v vl vu lo hi sl Q I rx hs pl pu h;obtain ⟨a,xs,rfl,hx,q⟩:=h;cases rx;obtain ⟨its,r,ht,hz⟩:=I.list hx;have hlen:=r.length;refine ⟨"list",_,_cs.lookup,ht.isList.typeIs,?_⟩;refine wpAny_getItem_list_slice ht.isList hs pl pu .none (by simp) ?_ (by rw [_k]<;>omega);rw [z3U,<- hlen];refine ⟨.ref s.heap.objs.size,_,I.laid (t':=s.toks) (o:=.lst (zd3 xs lo hi)) (fun b ob q=>_b _ q) (_j _) ?_,rfl,q _ (I.hok.fresh (_j _))⟩;exact ⟨_R (z1E xs lo hi) hz,_,0,(r.drop (HT.sIx xs.length 0 lo)).take (HT.sIx xs.length xs.length hi-HT.sIx xs.length 0 lo),_n _ rfl⟩
def z2Z:V->Bool
 | .non=>true | .bl _=>true | .int _=>true | .str _=>true | _=>false
def eqV:V->V->Bool
 | .non,.non=>true | .bl a,.bl b=>a==b | .bl a,.int b=>(if a then 1 else 0)==b | .int a,.bl b=>a==(if b then 1 else 0) | .int a,.int b=>a==b | .str a,.str b=>a==b | _,_=>false
theorem zgv{A:Around}{s:Shared}{y x:V}{u v:Value}(ry:xK y u)(rx:xK x v)(fy:z2Z y=true)(fx:z2Z x=true):SeqAt.EqAt A s u v (eqV y x):=by cases y with
 | non=>
  cases ry;cases x with
  | non=>cases rx;exact SeqAt.EqAt.same _ | bl b=>cases rx;exact SeqAt.EqAt.none_bool b | int b=>obtain ⟨t,rfl⟩:=rx;exact SeqAt.EqAt.none_int b t | str b=>obtain ⟨t,rfl⟩:=rx;exact SeqAt.EqAt.none_str b t | _=>exact absurd (show false=true from fx) _N
 | bl a=>
  cases ry;cases x with
  | non=>cases rx;exact SeqAt.EqAt.bool_none a | bl b=>cases rx;exact SeqAt.EqAt.bool_bool a b | int b=>obtain ⟨t,rfl⟩:=rx;exact SeqAt.EqAt.bool_int a b t | str b=>obtain ⟨t,rfl⟩:=rx;exact SeqAt.EqAt.bool_str a b t | _=>exact absurd (show false=true from fx) _N
 | int a=>
  obtain ⟨t',rfl⟩:=ry;cases x with
  | non=>cases rx;exact SeqAt.EqAt.int_none a t' | bl b=>cases rx;exact SeqAt.EqAt.int_bool a t' b | int b=>obtain ⟨t,rfl⟩:=rx;exact SeqAt.EqAt.int_int a t' b t | str b=>obtain ⟨t,rfl⟩:=rx;exact SeqAt.EqAt.int_str a t' b t | _=>exact absurd (show false=true from fx) _N
 | str a=>
  obtain ⟨t',rfl⟩:=ry;cases x with
  | non=>cases rx;exact SeqAt.EqAt.str_none a t' | bl b=>cases rx;exact SeqAt.EqAt.str_bool a t' b | int b=>obtain ⟨t,rfl⟩:=rx;exact SeqAt.EqAt.str_int a t' b t | str b=>obtain ⟨t,rfl⟩:=rx;exact SeqAt.EqAt.str_str a t' b t | _=>exact absurd (show false=true from fx) _N
 | _=>exact absurd (show false=true from fy) _N
def eqU(x:V)(u:Value):Bool:=match u with
 | .none=>eqV .non x | .bool b=>eqV (.bl b) x | .int i _=>eqV (.int i) x | .str z _=>eqV (.str z) x | _=>false
theorem zd9{x y:V}{u:Value}(r:xK y u)(f:z2Z y=true):eqU x u=eqV y x:=by cases y with
 | non=>cases r;rfl | bl b=>cases r;rfl | int i=>obtain ⟨t,rfl⟩:=r;rfl | str z=>obtain ⟨t,rfl⟩:=r;rfl | _=>exact absurd (show false=true from f) _N
theorem z1Y{x:V}:∀ {xs:List V}{us:List Value},yA xs us->xs.all z2Z=true->us.any (eqU x)=xs.any fun y=>eqV y x
 | _,_,.nil,_=>rfl | y::xs,u::us,.cons r t,f=>by
  rw [_bR,_D] at f;rw [List.any_cons,List.any_cons,zd9 r f.1,z1Y t f.2]
theorem kE{A:Around}{s:Shared}{x:V}{v:Value}(rx:xK x v)(fx:z2Z x=true):∀ {xs:List V}{us:List Value},yA xs us->xs.all z2Z=true->∀ u∈us,SeqAt.EqAt A s u v (eqU x u)
 | _,_,.nil,_=>fun u hu=>by cases hu | y::xs,u::us,.cons r t,f=>fun u' hu=>by
  rw [_bR,_D] at f;rcases _r.mp hu with rfl | hu;·rw [zd9 r f.1];exact zgv r rx f.1 fx
  ·exact kE rx fx t f.2 u' hu
def inV(x:V)(xs:List V):Bool:=xs.any fun y=>eqV y x
def rIn(K:W.Frag)(neg:Bool):R2:=fun x y H Q=>∃ p xs,y=.ref p/\(SqL K H p xs\/SqT K H p xs)/\z2Z x=true/\xs.all z2Z=true/\Q (.bl (if neg then !inV x xs else inV x xs)) H
theorem zaT:OpR X (compareOp .In) (rIn X.K false):=by
 intro pins s O H x y v u Q I rx ry h;obtain ⟨p,xs,rfl,hq,fx,fs,q⟩:=h;cases ry;rcases hq with hq | hq
 ·obtain ⟨its,r,pl,hz⟩:=I.list hq;refine SeqAt.in_listAt (eqU x) pl.isList (fun w hw=>kE rx fx r fs w (by simpa using hw)) ⟨.bl _,H,I,rfl,?_⟩;rw [show its.toArray.any (eqU x)=its.any (eqU x) by simp,z1Y r fs];exact q
 ·obtain ⟨its,r,pl,hz⟩:=I.tuple hq;refine SeqAt.in_tupleAt (eqU x) pl (fun w hw=>kE rx fx r fs w (by simpa using hw)) ⟨.bl _,H,I,rfl,?_⟩;rw [show its.toArray.any (eqU x)=its.any (eqU x) by simp,z1Y r fs];exact q
theorem z50:OpR X (compareOp .NotIn) (rIn X.K true):=by
 intro pins s O H x y v u Q I rx ry h;obtain ⟨p,xs,rfl,hq,fx,fs,q⟩:=h;cases ry;rcases hq with hq | hq
 ·obtain ⟨its,r,pl,hz⟩:=I.list hq;refine SeqAt.notIn_listAt (eqU x) pl.isList (fun w hw=>kE rx fx r fs w (by simpa using hw)) ⟨.bl _,H,I,rfl,?_⟩;rw [show its.toArray.any (eqU x)=its.any (eqU x) by simp,z1Y r fs];exact q
 ·obtain ⟨its,r,pl,hz⟩:=I.tuple hq;refine SeqAt.notIn_tupleAt (eqU x) pl (fun w hw=>kE rx fx r fs w (by simpa using hw)) ⟨.bl _,H,I,rfl,?_⟩;rw [show its.toArray.any (eqU x)=its.any (eqU x) by simp,z1Y r fs];exact q
theorem z5o:xD X (.builtin "len") (fun xs H Q=>∃ p ys,xs=[.ref p]/\(SqL X.K H p ys\/SqT X.K H p ys)/\Q (.int ys.length) H):=by
 intro pins s O H xs us Q I r h;obtain ⟨p,ys,rfl,hq,q⟩:=h;obtain ⟨u,rfl,rx⟩:=vals1 r;cases rx;have hn:=z7I;rcases hq with hq | hq
 ·obtain ⟨its,r',pl,hz⟩:=I.list hq;have hlen:=r'.length;exact Calls.call_len_list pl.isList (by simp only [_k]<;>omega) ⟨.int ys.length,H,I.tok _,⟨s.toks+1,by rw [_k,hlen]⟩,q⟩
 ·obtain ⟨its,r',pl,hz⟩:=I.tuple hq;have hlen:=r'.length;exact len_tuple pl (by simp only [_k]<;>omega) ⟨.int ys.length,H,I.tok _,⟨s.toks+1,by rw [_k,hlen]⟩,q⟩
theorem z6d:xD X (.type "list") (fun xs H Q=>∃ p ys,xs=[.ref p]/\(SqL X.K H p ys\/SqT X.K H p ys)/\∀ l,H l=none->Q (.ref l) (upd H l (.lst ys))):=by
 intro pins s O H xs us Q I r h;obtain ⟨p,ys,rfl,hq,q⟩:=h;obtain ⟨u,rfl,rx⟩:=vals1 r;cases rx;have fin:∀ (its:List Value),yA ys its->ys.length<=sizeLine->∀ (h':Heap) (c':Nat),(∀ b o',s.heap.get? b=some o'->h'.get? b=some o')-> h'.get? s.heap.objs.size=some {cls:=.type "list",dict:=none,data:=.seq its.toArray c',slots:=#[]}->EP X pins O Q (.ref s.heap.objs.size) {s with heap:=h'}:=fun its r' hz h' c' kp e=> ⟨.ref s.heap.objs.size,_,I.laid (t':=s.toks) kp (_j _) (show xn X.prog X.w _ h' _ (.lst ys) from ⟨hz,its,c',r',e⟩),rfl,q _ (I.hok.fresh (_j _))⟩;rcases hq with hq | hq
 ·obtain ⟨its,r',pl,hz⟩:=I.list hq;have hlen:=r'.length;obtain ⟨o,ho,hc,n,hd⟩:=pl.isList;exact call_list_seq p (.inl rfl) ho hc hd (fun h' c' kp e=>fin its r' hz h' c' kp e) (by simp only [_k]<;>omega)
 ·obtain ⟨its,r',pl,hz⟩:=I.tuple hq;have hlen:=r'.length;obtain ⟨o,ho,hc,n,hd⟩:=pl;exact call_list_seq p (.inr rfl) ho hc hd (fun h' c' kp e=>fin its r' hz h' c' kp e) (by simp only [_k]<;>omega)
theorem z4D:xD X (.type "tuple") (fun xs H Q=>∃ p ys,xs=[.ref p]/\((SqL X.K H p ys/\∀ l,H l=none->Q (.ref l) (upd H l (.tup ys)))\/(SqT X.K H p ys/\Q (.ref p) H))):=by
 intro pins s O H xs us Q I r h;obtain ⟨p,ys,rfl,h⟩:=h;obtain ⟨u,rfl,rx⟩:=vals1 r;cases rx;rcases h with ⟨hq,q⟩ | ⟨hq,q⟩
 ·obtain ⟨its,r',pl,hz⟩:=I.list hq;have hlen:=r'.length;refine call_tuple_list pl.isList (fun h' kp=>?_) (by simp only [_k]<;>omega);have I1:Inv X pins O H {s with heap:=h'}:=I.kept (t':=s.toks) kp;have I2:Inv X pins O (upd H h'.objs.size (.tup ys)) {s with heap:=h'.push {cls:=.type "tuple",data:=.seq its.toArray}}:= I1.laid (t':=s.toks) (fun b o e=>_b _ e) (_j _) (show xn X.prog X.w _ _ _ (.tup ys) from ⟨hz,its,r',z9f.new _ _⟩);exact ⟨.ref h'.objs.size,_,I2,rfl,q _ (I1.hok.fresh (_j _))⟩
 ·obtain ⟨its,r',pl,hz⟩:=I.tuple hq;exact call_tuple_same pl ⟨.ref p,H,I,rfl,q⟩
def tyV(K:W.Frag)(T:String)(x:V)(H:Hp):Prop:=match x with
 | .str _=>T="str" | .int _=>T="int" | .ref p=>(T="list"/\∃ xs,SqL K H p xs)\/(T="tuple"/\∃ o,K.lookup p=some o/\o.cls=.type "tuple"/\o.dict=none)\/ (T="dict"/\((∃ kvs,H p=some (.dK kvs))\/∃ kvs,H p=some (.dT kvs)))\/(T="set"/\∃ S n,H p=some (.set S n)) | _=>False
theorem zgh{pins:List (Addr×Obj)}{O:St}{H:Hp}{s:Shared}{T:String}{x:V}{v:Value}(I:Inv X pins O H s)(r:xK x v)(ty:tyV X.K T x H): s.TypeIs v T/\∀ a,v=.ref a->∃ ob,s.heap.get? a=some ob/\ob.dict=none:=by cases x with
 | str z=>
  obtain ⟨t,rfl⟩:=r;cases (show T="str" from ty);exact ⟨typeIs_str s z t,fun _ e=>nomatch e⟩ | int i=>
  obtain ⟨t,rfl⟩:=r;cases (show T="int" from ty);exact ⟨_bO s i t,fun _ e=>nomatch e⟩ | ref p=>
  cases r;rcases ty with ⟨rfl,xs,hq⟩ | ⟨rfl,o,hk,hc,hd⟩ | ⟨rfl,hk⟩ | ⟨rfl,S,n,hk⟩
  ·obtain ⟨its,_,pl,_⟩:=I.list hq;refine ⟨pl.isList.typeIs,fun a e=>?_⟩;cases e;obtain ⟨o,n,e,c,hd,_⟩:=pl;exact ⟨o,e,hd⟩
  ·refine ⟨⟨o,I.kIn p o hk,hc⟩,fun a e=>?_⟩;cases e;exact ⟨o,I.kIn _ o hk,hd⟩
  ·have z:∃ o,s.heap.get? p=some o/\o.ExactDict:=by
    rcases hk with ⟨kvs,hk⟩ | ⟨kvs,hk⟩
    ·obtain ⟨_,_,_,_,o,_,_,e,ex,_⟩:=I.hok p _ hk;exact ⟨o,e,ex⟩
    ·obtain ⟨_,_,_,_,o,_,_,e,ex,_⟩:=I.hok p _ hk;exact ⟨o,e,ex⟩
   obtain ⟨o,e,ex⟩:=z;refine ⟨⟨o,e,ex.1⟩,fun a e2=>?_⟩;cases e2;exact ⟨o,e,ex.2.1⟩
  ·obtain ⟨o,_,_,_,e,ex,_⟩:=I.hok p _ hk;refine ⟨⟨o,e,ex.1⟩,fun a e2=>?_⟩;cases e2;exact ⟨o,e,ex.2.1⟩ | _=>exact False.elim ty
def tBM(K:W.Frag)(T:String)(r:V->List V->Hp->VK->Prop)(to:TE)(t:TA):TE:=fun O H Q=>to O H fun x H1=>tyV K T x H1/\t O H1 fun xs H2=>r x xs H2 Q
variable {o e:Expr}{es:List Expr}{to:TE}{t:TA}{name:Str}{apos cpos:Pos}{T id:String}{r:V->List V->Hp->VK->Prop}
theorem zfe (pa:PlainAttrs T) (slot:Slot T name id) (hty:typeOf (.builtin id)=pure (.type "method_descriptor")) (hm:MtR X id r) (ho:PE X o to) (ha:PA X (e::es) t) (hbase:attributeBase o name X.env (eval o X.env)=eval o X.env:=by rfl) (hfew:((backTo cpos (starEach (e::es) X.env)).all (fun x=>!x.1)&&(backToKw cpos (keywordEach [] X.env)).all (fun x=>x.1.isSome) && decide ((e::es).length+([]:List Keyword).length+(if ([]:List Keyword).isEmpty then 0 else 1)<30))=true:=by rfl) (hline:(apos.endLine==cpos.line)=true:=by rfl) (hs:starEach (e::es) X.env=(false,eval e X.env)::starEach es X.env:=by rfl) (hplain:(backTo cpos (starEach es X.env)).any (·.1)=false:=by rfl): PE X (.Call (.Attribute o name apos) (e::es) [] cpos) (tBM X.K T r to t):=by
 intro pins s O H Q I h;refine _bD hbase hfew hline rfl (thn (ho pins s O H _ I h) fun v s1 ⟨x,H1,I1,r1,ty,q1⟩=>?_);obtain ⟨h1,h2⟩:=zgh I1 r1 ty;refine ⟨T,id,pa,slot,hty,h1,h2,?_⟩;have hA:=ha cpos pins s1 O H1 _ I1 q1;rw [hs] at hA ⊢;refine _bE (by show (false||(backTo cpos (starEach es X.env)).any (·.1))=false;rw [hplain]<;>rfl) (_bd ?_);exact thn hA fun us s2 ⟨vs,H2,I2,r2,q2⟩=>hm pins s2 O H2 x vs v us Q I2 r1 r2 q2
end
def MtM (X:Cx) (id:String) (r:V->List V->Hp->VK->Prop):Prop:= ∀ (pins:List (Addr×Obj)) (s:Shared) (O:St) (H:Hp) (x:V) (xs:List V) (v:Value) (us:List Value) (Q:VK),Inv X pins O H s->xK x v->yA xs us->r x xs H Q-> wpAny (model X.prog X.w) X.A (call (.builtin id) (v::us)) (EP X pins O Q) X.xe s
theorem yA.one:∀ {x:V}{us:List Value},yA [x] us->∃ u,us=[u]/\xK x u | _,_,.cons r .nil=>⟨_,rfl,r⟩
theorem yA.rep{xs:List V}{us:List Value}(h:yA xs us):∀ k:Nat,yA (List.replicate k xs).flatten (List.replicate k us).flatten
 | 0=>.nil | k+1=>by
  rw [_Y,_Y,_aB,_aB];exact yA.append h (yA.rep h k)
theorem foldl_rep(its:List Value):∀ (k:Nat)(acc:List Value), List.foldl (fun x1 x2=>x1++x2) acc.toArray (List.replicate k its.toArray)=(acc++(List.replicate k its).flatten).toArray
 | 0,acc=>by simp | k+1,acc=>by
  have e:acc.toArray++its.toArray=(acc++its).toArray:=by simp
  have e2:(acc++its)++(List.replicate k its).flatten=acc++(List.replicate (k+1) its).flatten:=by rw [_Y,_aB,_aC]
  rw [<- e2,<- foldl_rep its k (acc++its),<- e,_Y,_aO]
section
variable {X:Cx}{pins:List (Addr×Obj)}{O:St}{H:Hp}{s:Shared}{l b:Addr}{xs ys zs:List V}
theorem Inv.lset {its its':List Value} {n:Nat} {f:Array Value->Array Value} {t':Nat} (I:Inv X pins O H s) (hH:H l=some (.lst xs)) (e:s.heap.get? l=some {cls:=.type "list",data:=.seq its.toArray n}) (hf:f its.toArray=its'.toArray) (hv:yA ys its') (hz:ys.length<=sizeLine): Inv X pins O (upd H l (.lst ys)) {s with heap:=s.heap.update l (Obj.mapSeq f),toks:=t'}:=by
 have q:=PySem.IsL.update e f;rw [hf] at q;refine I.write (x:=l) (e:=l) (by rw [hH];exact trivial) (.inl rfl) (fun b' u hb hu=>(_a2 s.heap (Obj.mapSeq f) (_aE hb)).trans hu) ⟨_,q⟩ ?_;exact ⟨hz,its',_,hv,q⟩
theorem Inv.lnew {its:List Value} {t':Nat} (I:Inv X pins O H s) (hv:yA ys its) (hz:ys.length<=sizeLine): Inv X pins O (upd H s.heap.objs.size (.lst ys)) {s with heap:=s.heap.push {cls:=.type "list",data:=.seq its.toArray},toks:=t'}:= I.laid (fun _ _ q=>_b _ q) (_j _) ⟨hz,its,0,hv,_n _ rfl⟩
theorem Inv.fresh(I:Inv X pins O H s):H s.heap.objs.size=none:=I.hok.fresh (_j _)
theorem Inv.lstM(I:Inv X pins O H s)(hH:H l=some (.lst xs)):xs.length<=sizeLine/\∃ (its:List Value)(n:Nat),yA xs its/\xs.length=its.length/\s.heap.get? l=some {cls:=.type "list",data:=.seq its.toArray n}:=by
 obtain ⟨z,its,n,r,e⟩:=I.hok l _ hH;exact ⟨z,its,n,r,r.length,e⟩
theorem zcv{n:Nat}(h:n<=sizeLine):Builtin.List.listTooLong n=false:=by
 unfold Builtin.List.listTooLong;exact _ae (by omega)
end
section
variable {X:Cx}
def zeL:V->List V->Hp->VK->Prop:=fun x vs H Q=>∃ l xs y,x=.ref l/\vs=[y]/\H l=some (.lst xs)/\xs.length<sizeLine/\Q .non (upd H l (.lst (xs++[y])))
theorem zas:MtM X "list.append" zeL:=by
 intro pins s O H x vs v us Q I rx rv h;obtain ⟨l,xs,y,rfl,rfl,hH,hz,q⟩:=h;cases rx;obtain ⟨u,rfl,ru⟩:=rv.one;obtain ⟨z,its,n,r,hl,e⟩:=I.lstM hH;refine _a3 F.slot_list_append ⟨_,e,rfl⟩ F.entry_list_append (F.args_list_append_2 _ _) (PySem.list_append l its.toArray n u (by rw [_k];omega)) ⟨e,?_⟩;refine ⟨.non,_,I.lset (its':=its++[u]) hH e (by simp) (r.append (.cons ru .nil)) ?_,rfl,q⟩;rw [_aK,List.length_singleton];omega
def zjQ:R2:=fun x y H Q=>∃ l k xs,x=.ref l/\y=.int k/\Rd H l (.lst xs)/\-(2 ^ 63)<=k/\k<2 ^ 63/\xs.length*k.toNat<=sizeLine/\ ∀ p,H p=none->Q (.ref p) (upd H p (.lst (List.replicate k.toNat xs).flatten))
theorem len_rep{α:Type}(xs:List α)(k:Nat):(List.replicate k xs).flatten.length=k*xs.length:=by induction k with
 | zero=>simp | succ k ih=>rw [_Y,_aB,_aK,ih,Nat.succ_mul,Nat.add_comm]
theorem zd7:OpR X (binaryOp .Mult) zjQ:=by
 intro pins s O H x y v u Q I rx ry h;obtain ⟨l,k,xs,rfl,rfl,hH,h1,h2,hz,q⟩:=h;cases rx;obtain ⟨t,rfl⟩:=ry;obtain ⟨z,its,n,r,e⟩:=hH.ok I.hok;have hl:xs.length=its.length:=by have:=r.length;omega
 have hlen:its.toArray.size*k.toNat<=sizeLine:=by rw [_k,<- hl];exact hz
 have hcap:¬ its.toArray.size*k.toNat > (2 ^ 63-1) / 8:=by
  have:(sizeLine:Nat)<=(2 ^ 63-1) / 8:=by decide
  omega
 have hfit:¬ (!Builtin.List.listFitsIndex k)=true:=by
  rw [fitsIndex_both h1 h2];exact _N
 have hlong:¬ Builtin.List.listTooLong (its.toArray.size*k.toNat)=true:=by
  rw [zcv hlen];exact _N
 have hnew:List.foldl (fun x1 x2=>x1++x2) #[] (List.replicate (if its.toArray.isEmpty=true then 0 else k.toNat) its.toArray)=(List.replicate k.toNat its).flatten.toArray:=by
  have f0:∀ m:Nat,List.foldl (fun x1 x2=>x1++x2) #[] (List.replicate m its.toArray)=(List.replicate m its).flatten.toArray:=fun m=>by
   have:=foldl_rep its m [];rw [_ao] at this;exact this
  rw [f0];cases its with
  | nil=>simp | cons a r'=>rw [_o (by simp)]
 refine _bi (T:="list") (U:="int") (by decide) ⟨_,e,rfl⟩ (fun s'=>_bO s' k t) noFill_list_mul F.fills_int_mul _a9 repeat_list _cI.lookup (_a3 _a9 (_bO s k t) _cJ (_ct _ _) (int___rmul___int_list k t l its.toArray n) ⟨e,rfl,⟨_,e,rfl⟩,_a3 F.slot_list_mul ⟨_,e,rfl⟩ F.entry_list_mul (F.args_list_mul_2 _ _) (AutoListH.list___mul___list_int_3 l its.toArray n k t hfit hcap hlong) ⟨e,?_⟩⟩);rw [hnew];exact ⟨.ref _,_,I.lnew (t':=s.toks) (r.rep k.toNat) (by rw [len_rep,Nat.mul_comm];exact hz),rfl,q _ I.fresh⟩
end
end L2
namespace Att
open PySem.W PySem.Calls
theorem z2p{P:Params}{h:Heap}:∀ (ns:List Int)(vs:List Value),WellAll P h vs (ns.map WData.int)->IntsAre vs ns:=by
 intro ns;induction ns with
 | nil=>
  intro vs w;rw [List.map_nil] at w;cases w;exact .nil | cons n ns ih=>
  intro vs w;rw [_w] at w;cases w with | cons a b=>
   cases a;exact .cons _ _ (ih _ b)
theorem zb6 {l:OpenLaw} {n:Nat} (hn:l.most=some n) {P:Params} {h:Heap} {args:List WData} {vals:List Value} (hpre:l.row.toRowW.claim.pre args=true) (hwl:WellAll P h vals args): ∃ a vs ns,vals=[Value.ref a]/\args=[WData.list (ns.map WData.int)]/\h.get? a=some {cls:=.type "list",data:=.seq vs.toArray}/\IntsAre vs ns/\ns.length<=n:=by
 have hsh:WShape.hasAll [] args [.list .int]=true:=(pre_splitW hpre).1;have hc:l.pre.holds [] {args:=args}=true:=(pre_splitW hpre).2;obtain ⟨d,r,rfl,h1,h2⟩:=hasAllW_cons hsh;obtain rfl:=hasAllW_nil h2;obtain ⟨xs,rfl,h3⟩:=hasW_list h1;obtain ⟨ns,rfl⟩:=items_int h3;have hlen:ns.length<=n:=by
  unfold OpenLaw.pre at hc;have h4:(WTm.not (.lt (.lit (.int (n:Int))) (.len (.arg 0)))).holds [] {args:=[.list (ns.map .int)]}=true:=by
   have h4:=(holds_andW hc).1;rw [hn] at h4;exact h4
  have h5:=condW_of h4 (w_not (w_lt w_lit (w_len_list (w_arg rfl))));rw [_J] at h5;refine Nat.le_of_not_lt fun q=>?_;have q':(n:Int)<(ns.length:Int):=by omega
  first
   | (rw [_bF q'] at h5;exact absurd h5 (by decide)) | (simp at h5;omega)
 cases hwl with | cons w1 w2=>
  cases w2;cases w1 with | list ho hall=>exact ⟨_,_,ns,rfl,rfl,ho,z2p ns _ hall,hlen⟩
theorem zat (l:OpenLaw) (args:List WData):l.row.toRowW.claim.post args (.bool true) args=true:= postW_of (r:=l.row.toRowW) (X:=(true==true)) (show WShape.has [] (.bool true) .bool=true by first | rfl | decide | simp [WShape.has,WShape.arms,WShape.armsAll]) (show (WTm.eq .res (.lit (.bool true))).value [] {args:=args,res:=some (.bool true),after:=args}=some (.bool (true==true)) from w_eq_bool (w_res rfl) w_lit) rfl
theorem z6D{l:OpenLaw}{n:Nat}{q:Program}{loose:List Str}{XP:(Str->Option Value)->Heap->Prop}{YP:World->Heap->Prop}{d:DefRec} (hn:l.most=some n)(hdf:d.params.defaults=[]) (call:∀ (w:World)(s₀ s₁:Shared)(mg mb:Str->Option Value)(fa:Addr)(o:Obj)(pm cd doc:Value)(a:Addr)(vs:List Value)(ns:List Int), Ground q loose [] XP w s₀ mg mb s₁.heap->YP w s₁.heap-> s₁.heap.get? fa=some o->o.data=.func (docDef d.name d.params d.body d.scope pm cd doc)->s₁.heap.CodeRec cd d.name->mg d.name=some (.ref fa)-> s₁.heap.get? a=some {cls:=.type "list",data:=.seq vs.toArray}->IntsAre vs ns->ns.length<=n->s₁.gens=#[]-> codeAny (model l.prog w) callerA (.call (.ref fa) ⟨[.ref a],[]⟩) (fun r s'=>r=.ok (.ret (.bool true))/\OldK s₁.heap s'.heap/\s'.os=s₁.os/\AllBare s'.gens) s₁): WalkO q loose XP YP l.row.toRowW d [] (fun f vs=>PySem.call f vs):=by
 intro w s₀ s₁ mg mb G Yy fa o pm cd doc dV kV ho hd hcd hD hmg hg args vals as hpre hlay hrd hwl hlo;obtain rfl:dV=.none:=Dflts.none hD hdf;obtain rfl:kV=.none:=Dflts.noKw hD;obtain ⟨a,vs,ns,rfl,rfl,hobj,hints,hlen⟩:=zb6 hn hpre hwl;refine enter_call (_cW (call w s₀ s₁ mg mb fa o pm cd doc a vs ns G Yy ho (fd_plain hd) hcd hmg hobj hints hlen hg) fun r s' hq=>?_);obtain ⟨rfl,h2,h3,h4⟩:=hq;exact ⟨.inl ⟨.bool true,.bool true,[],rfl,fun _=>rfl,.bool true,zat l _,fun _=>⟨List.Pairwise.nil,fun _ hm=>(nomatch hm)⟩⟩,h2,h3,h4⟩
section
variable {prog:Program}{w:World}{A:Around}{E:Value->Shared->Prop}{s:Shared}{K:Frag}
def ledger(h:Heap)(L d:Addr):List (Addr×Obj):=(List.range h.objs.size).filterMap fun a=>if a=L\/a=d then none else (h.get? a).map fun o=>(a,o)
end
end Att
namespace L2
theorem z4X:∀ {vs:List Value}{ns:List Int},IntsAre vs ns->yA (ns.map V.int) vs
 | _,_,.nil=>.nil | _,_,.cons n t h=>.cons ⟨t,rfl⟩ (z4X h)
def ziU(H:Hp):Prop:=∀ b,H b=none\/∃ o xs,H b=some (.frz o (.lst xs))
theorem zc7 {P:Program} {w:World} {K:W.Frag} {mg mb:Str->Option Value} {CX:CXT} {k:Nat} {fa a:Addr} {fd:FuncData} {x:Str} {sp:Sp} {s₁:Shared} {vs:List Value} {ns:List Int} (KX:K.In s₁.heap) (hns:s₁.heap.Ns mainGlobals mg) (hb:s₁.heap.Ns builtinsNs mb) (hbb:∀ x:Str,x≠"__name__"->mb x=bootBuiltins x) (hlim:s₁.heap.NoLimit) (hg:s₁.gens=#[]) (ha:s₁.heap.get? a=some {cls:=.type "list",data:=.seq vs.toArray}) (hi:IntsAre vs ns) (hl:ns.length<=sizeLine) (hr:z0k k callerA) (F:∀ base:Heap,K.In base->base.Ns mainGlobals mg->z47 P w K mg base CX k fa fd [x] sp) (hbind:∀ (s:Shared) (u:Value),BindsTo s fd ⟨[u],[]⟩ [(x,u)]) (hsp:∀ H:Hp,ziU H->SqL K H a (ns.map V.int)->sp [.ref a] H (fun v _=>v=.bl true) fun _ _ _=>False) (hCX:∀ H e s',CX [] H s₁ (fun _ _ _=>False) e s'->False): codeAny (model P w) callerA (.call (.ref fa) ⟨[.ref a],[]⟩) (fun r s'=>r=.ok (.ret (.bool true))/\OldK s₁.heap s'.heap/\s'.os=s₁.os/\AllBare s'.gens) s₁:=by
 have rv:=z4X hi;have lenV:=hi.length;have core:∀ H:Hp,ziU H->SqL K H a (ns.map V.int)->HOk P w H s₁.heap->(∀ b,H b≠none->b=a)->(H a≠none->K.lookup a=none)-> codeAny (model P w) callerA (.call (.ref fa) ⟨[.ref a],[]⟩) (fun r s'=>r=.ok (.ret (.bool true))/\OldK s₁.heap s'.heap/\s'.os=s₁.os/\AllBare s'.gens) s₁:=by
  intro H hO hS hok hA hK;have base_of:∀ {b:Addr} {o:Obj},s₁.heap.get? b=some o->H b=none->(zc3 s₁.heap H).get? b=some o:=fun e n=>zc2 e n;have noA:∀ {b:Addr} {o:Obj} {es:Array DictEntry} {ep:Nat},s₁.heap.get? b=some o->o.data=.dict es ep->H b=none:=fun {b o es ep} e d=>by cases q:H b with
   | none=>rfl | some u=>
    have e':b=a:=hA b (by rw [q];simp);subst e';rw [ha] at e;cases e;have d':Data.seq vs.toArray _=Data.dict es ep:=d;cases d'
  have nsK:∀ {b:Addr} {m:Str->Option Value},s₁.heap.Ns b m->(zc3 s₁.heap H).Ns b m:=fun {b m} ⟨o,es,ep,e,d,r⟩=>⟨o,es,ep,base_of e (noA e d),d,r⟩;have hKb:K.In (zc3 s₁.heap H):=fun b o e=>base_of (KX b o e) (by cases q:H b with
   | none=>rfl | some u=>
    have e':b=a:=hA b (by rw [q];simp);subst e';rw [hK (by rw [q];simp)] at e;cases e);have hM:Mod K mg (zc3 s₁.heap H):=⟨hKb,nsK hns,⟨mb,nsK hb,hbb⟩,let ⟨mc,h1,h2⟩:=hlim;⟨mc,nsK h1,h2⟩⟩;have e0:zgo P w K mg (zc3 s₁.heap H) callerA [] s₁ H:=⟨rfl,hM,fun b o e=>zfv e,Nat.le_of_eq (z9h _ _),trivial,fun b hb=>absurd (show b∈([]:List Addr) from hb) (by simp),hok,.of_eq hg⟩;refine _cW ((F _ hKb (nsK hns)).run callerA [] s₁ H ⟨[.ref a],[]⟩ [.ref a] [.ref a] _ _ hr e0 (hbind s₁ (.ref a)) (.cons rfl .nil) (hsp H hO hS)) fun r s' h=>?_;cases r with
  | error e=>exact (hCX H e s' h).elim | ok fl=> cases fl with
   | next=>exact False.elim h | brk=>exact False.elim h | cont=>exact False.elim h | ret u=>
    obtain ⟨v,H',os,bare,un,hok',r',q⟩:=h;have q':v=.bl true:=q;subst q';obtain rfl:u=Value.bool true:=r';refine ⟨rfl,OldK.of_keep fun b o e=>?_,os,bare⟩;cases q:H b with
    | none=>exact un.keep b o e q (by intro z;exact absurd (show b∈([]:List Addr) from z) (by simp)) (by simp) | some u=>
     rcases hO b with z | ⟨ob,xs,z⟩;·rw [q] at z;cases z
     ·have z2:=un.frzs b ob _ z;obtain ⟨e1,_⟩:=hok b _ z;obtain ⟨e2,_⟩:=hok' b _ z2;rw [e] at e1;cases e1;exact e2
 cases hk:K.lookup a with
 | some o=>
  have e:=KX a o hk;rw [ha] at e;cases e;refine core (fun _=>none) (fun _=>.inl rfl) (.inr ⟨_,vs.toArray,_,hk,rfl,rfl,rfl,by rw [_k,lenV];exact hl,by simpa using rv⟩) (fun b u z=>by have z':(none:Option HO)=some u:=z;cases z') (fun b z=>absurd rfl z) fun z=>absurd rfl z | none=>
  refine core (fun b=>if b=a then some (.frz {cls:=.type "list",data:=.seq vs.toArray} (.lst (ns.map V.int))) else none) (fun b=>?_) (.inl (.inr ⟨{cls:=.type "list",data:=.seq vs.toArray},_d rfl⟩)) (fun b u z=>?_) (fun b z=>?_) fun _=>hk
  ·by_cases hb:b=a;·exact .inr ⟨_,_,_d hb⟩
   ·exact .inl (_o hb)
  ·by_cases hb:b=a
   ·have z':=(_d hb).symm.trans z;cases z';subst hb;exact ⟨ha,by rw [_J];exact hl,vs,_,rv,ha⟩
   ·have z':=(_o hb).symm.trans z;cases z'
  ·by_cases hb:b=a;·exact hb
   ·exact absurd (_o hb) z
abbrev KOf{K:W.Frag}{h:Heap}(_:K.In h):W.Frag:=K
def z0i(s:Stmt):Arguments:=match s with
 | .FunctionDef _ a _ _ _ _ _ _ _ _=>a | _=>{posonlyargs:=[],args:=[],vararg:=none,kwonlyargs:=[],kw_defaults:=[],kwarg:=none,defaults:=[]}
def wY(s:Stmt):List Stmt:=match s with
 | .FunctionDef _ _ b _ _ _ _ _ _ _=>b | _=>[]
def zg(s:Stmt):Scope:=match s with
 | .FunctionDef _ _ _ _ _ _ sc _ _ _=>sc | _=>{kind:=.function,names:=[],isGenerator:=false,isCoroutine:=false}
abbrev CX0:CXT:=fun _ _ _ _ _ _=>False
abbrev E0:XK:=fun _ _ _=>False
theorem zH{X:Cx}:Passes CX0 X E0:=fun _ _ _ _ _ _ _ h=>h.elim
structure Fun(K:W.Frag)(x qual:Str)(st:Stmt)(f:Addr)(fd:FuncData):Prop where
 ex:∃ (oc:Value)(od:Option Addr)(kV doc pm:Value)(an:Option Addr)(cdv ct:Value)(osl:Array (Option Value)), fd=W.fnOf x qual (z0i st) (wY st) (zg st) .none kV doc pm an cdv ct/\K.lookup f=some ⟨oc,od,.func fd,osl⟩/\W.codeIn K cdv qual=true
 kp:W.keepIn K (.ref f)=true
section
variable {P:Program}{w:World}{K:W.Frag}{mg:Str->Option Value}{base:Heap}
theorem Fun.ok{x qual:Str}{st:Stmt}{f:Addr}{fd:FuncData}{N ps:List Str}{k:Nat}{sp:Sp}(F:Fun K x qual st f fd)(S:zt N ps (zg st))(len:∀ vs H Q E,sp vs H Q E->vs.length=ps.length) (hbody:∀ (cdv:Value)(A:Around)(outer:List Env)(s:Shared)(H:Hp)(vs:List V)(Q:VK)(E:XK),z0k k (A.deeper (envOfC qual (zg st) s.heap.objs.size f cdv))->sp vs H Q E-> ∃ t,PSs (z0F CX0 P w K mg base N qual (zg st) f cdv A outer s H E).nox (wY st) t/\t {nx:=fun _ H'=>Q .non H',rt:=Q} (start N vs) H):z47 P w K mg base CX0 (k+1) f fd ps sp:=by
 obtain ⟨oc,od,kV,doc,pm,an,cdv,ct,osl,rfl,lk,hcd⟩:=F.ex;refine zfI lk hcd S len fun A outer s H vs Q E hr hsp=>?_;obtain ⟨t,h,q⟩:=hbody cdv A outer s H vs Q E hr hsp;exact ⟨t,h.nox,q⟩
theorem Fun.binds{x qual:Str}{st:Stmt}{f:Addr}{fd:FuncData}{ps:List Str}(F:Fun K x qual st f fd) (h:∀ (kV doc pm:Value)(an:Option Addr)(cdv ct:Value)(us:List Value),us.length=ps.length->bindArgs (W.fnOf x qual (z0i st) (wY st) (zg st) .none kV doc pm an cdv ct) ⟨us,[]⟩=pure (ps.zip us)):Binds K fd ps []:=by
 obtain ⟨oc,od,kV,doc,pm,an,cdv,ct,osl,rfl,lk,hcd⟩:=F.ex;exact .all (h kV doc pm an cdv ct)
theorem zh0{x qual:Str}{st:Stmt}{f:Addr}{oc:Value}{od an:Option Addr}{osl:Array (Option Value)}{kV doc pm cdv ct:Value}(l:K.lookup f=some ⟨oc,od,.func (W.fnOf x qual (z0i st) (wY st) (zg st) .none kV doc pm an cdv ct),osl⟩) (c:W.codeIn K cdv qual=true)(k:W.keepIn K (.ref f)=true):Fun K x qual st f (W.fnOf x qual (z0i st) (wY st) (zg st) .none kV doc pm an cdv ct):=⟨⟨oc,od,kV,doc,pm,an,cdv,ct,osl,rfl,l,c⟩,k⟩
end
end L2
set_option maxHeartbeats 4000000
namespace L2
def z4c(env:Env):List (Str×NameKind)->List (Str×Addr)->List (Str×Addr)
 | [],acc=>acc | (n,k)::r,acc=>z4c env r (if k==.free then (match env.cells.lookup n with | some c=>(n,c)::acc | none=>acc) else acc)
theorem z2t{env:Env}:∀ (names:List (Str×NameKind))(acc:List (Str×Addr)),(∀ x c,acc.lookup x=some c->env.cells.lookup x=some c)->∀ x c,(z4c env names acc).lookup x=some c->env.cells.lookup x=some c
 | [],acc,ha=>ha | (n,k)::r,acc,ha=>by
  unfold z4c;refine z2t r _ fun x c=>?_;split
  ·split
   ·rename_i c' hc;intro h;rw [_H] at h;split at h
    ·rename_i hb;cases h;rw [_as.mp hb];exact hc
    ·exact ha x c h
   ·exact ha x c
  ·exact ha x c
theorem z5E{env:Env}{x:Str}:∀ (names:List (Str×NameKind))(acc:List (Str×Addr)),(acc.lookup x).isSome=true->((z4c env names acc).lookup x).isSome=true
 | [],acc,ha=>ha | (n,k)::r,acc,ha=>by
  unfold z4c;refine z5E r _ ?_;split
  ·split
   ·rw [_H];split;·rfl
    ·exact ha
   ·exact ha
  ·exact ha
theorem z3E{env:Env}{x:Str}:∀ (names:List (Str×NameKind))(acc:List (Str×Addr)),(x,NameKind.free)∈names->(∃ c,env.cells.lookup x=some c)->∃ c,(z4c env names acc).lookup x=some c
 | [],acc,h,_=>nomatch h | (n,k)::r,acc,h,hc=>by
  rcases _r.mp h with e | h
  ·cases e;obtain ⟨c,hc⟩:=hc;unfold z4c;have q:((z4c env r ((x,c)::acc)).lookup x).isSome=true:=z5E r _ (by simp);rw [_d (by rfl),hc];exact _bo.mp q
  ·unfold z4c;exact z3E r _ h hc
theorem z3a{env:Env}(f:Str×NameKind->List (Str×Addr)->Sem (ForInStep (List (Str×Addr)))) (hf:∀ n k cs,f (n,k) cs=if k==.free then (do let a <- cellOf env n;pure (.yield ((n,a)::cs))) else pure (.yield cs)): ∀ (names:List (Str×NameKind))(acc:List (Str×Addr)),(∀ y∈names,y.2=.free->∃ c,env.cells.lookup y.1=some c)->forIn names acc f=pure (z4c env names acc)
 | [],acc,_=>rfl | (n,k)::r,acc,h=>by
  rw [List.forIn_cons,hf];have ih:=fun acc'=>z3a f hf r acc' fun y hy=>h y (_t _ hy);unfold z4c;by_cases hk:k=.free
  ·subst hk;obtain ⟨c,hc⟩:=h (n,.free) _F rfl;have hc':env.cells.lookup n=some c:=hc;have e:cellOf env n=pure c:=by unfold cellOf;rw [hc']
   rw [_d (by rfl),_d (by rfl),e,hc',pure_bind,pure_bind];exact ih _
  ·have hb:(k==NameKind.free)=false:=by simpa using hk
   rw [hb,_o (by decide),_o (by decide),pure_bind];exact ih _
theorem vp{scope:Scope}{env:Env}(h:∀ y∈scope.names,y.2=.free->∃ c,env.cells.lookup y.1=some c):closureFor scope env=pure (z4c env scope.names []):=by
 simp only [closureFor];rw [z3a (env:=env) _ (fun n k cs=>by cases hk:k==NameKind.free<;>simp [hk]) scope.names [] h];simp
theorem wo:∀ (names:List (Str×NameKind))(n:Nat)(acc:List (Str×Addr)),cellsFrom n names acc=cellsFrom n names []++acc
 | [],_,_=>rfl | (x,k)::r,n,acc=>by
  unfold cellsFrom;split
  ·rw [wo r (n+1) ((x,n)::acc),wo r (n+1) [(x,n)]];simp
  ·exact wo r n acc
theorem uW{x:Str}{c:Addr}:∀ (names:List (Str×NameKind))(n:Nat)(acc:List (Str×Addr)),(x,c)∈cellsFrom n names acc->(x,c)∈acc\/(x,NameKind.cell)∈names
 | [],_,_,h=>.inl h | (y,k)::r,n,acc,h=>by
  unfold cellsFrom at h;split at h
  ·rename_i hk;rcases uW r _ _ h with q | q
   ·rcases _r.mp q with e | q
    ·cases e;refine .inr ?_;rw [show k=NameKind.cell from _as.mp hk];exact _F
    ·exact .inl q
   ·exact .inr (_t _ q)
  ·rcases uW r _ _ h with q | q;·exact .inl q
   ·exact .inr (_t _ q)
def z4N(X:Cx)(scope:Scope)(C:Addr):Env:= {scope:=relabel scope X.env,locals:=C,globals:=X.env.globals,cells:=cellsFrom (C+1) scope.names []++z4c X.env scope.names [],qual:=X.env.qual,func:=none,code:=X.env.code,frame:=X.env.frame,builtins:=X.env.builtins}
def zw(X:Cx)(N':List Str)(scope:Scope)(ex:List Addr)(s:Shared)(H:Hp):Cx where
 prog:=X.prog;w:=X.w;K:=X.K;mg:=X.mg;base:=X.base;A:=X.A;N:=N';s₀:=s;H₀:=H;env:=z4N X scope s.heap.objs.size;outer:=X.stack;stack:=X.stack;ex:=ex;fn:=fun x=>scope.names.lookup x==some .cell;calm:=X.calm;pn:=[];xe:=fun _ _=>False
theorem jQ{env:Env}{x:Str}{k:NameKind}:∀ {names:List (Str×NameKind)},names.lookup x=some k-> (names.map fun (n,k)=>if (k==NameKind.free&&env.scope.kind==.function&&env.kindOf n==some .cell) then (n,NameKind.cell) else (n,k)).lookup x=some k\/ (k=.free/\(names.map fun (n,k)=>if (k==NameKind.free&&env.scope.kind==.function&&env.kindOf n==some .cell) then (n,NameKind.cell) else (n,k)).lookup x=some .cell)
 | [],h=>by simp at h | (n,k')::r,h=>by
  have ih:=@jQ env x k r;show List.lookup x ((if (k'==NameKind.free&&env.scope.kind==.function&&env.kindOf n==some .cell)=true then (n,NameKind.cell) else (n,k'))::_)=_\/(_/\List.lookup x ((if (k'==NameKind.free&&env.scope.kind==.function&&env.kindOf n==some .cell)=true then (n,NameKind.cell) else (n,k'))::_)=_);cases hx:x==n with
  | true=>
   simp only [_H,hx] at h;cases h;by_cases hc:(k==NameKind.free&&env.scope.kind==.function&&env.kindOf n==some .cell)=true
   ·rw [_d hc];simp only [_D,_as] at hc;exact .inr ⟨hc.1.1,by simp [_H,hx]⟩
   ·rw [_o hc];exact .inl (by simp [_H,hx]) | false=>
   simp only [_H,hx] at h;by_cases hc:(k'==NameKind.free&&env.scope.kind==.function&&env.kindOf n==some .cell)=true;·rw [_d hc];simp only [_H,hx];exact ih h
   ·rw [_o hc];simp only [_H,hx];exact ih h
theorem uo{env:Env}{x:Str}{k:NameKind}:∀ {names:List (Str×NameKind)}, (names.map fun (n,k)=>if (k==NameKind.free&&env.scope.kind==.function&&env.kindOf n==some .cell) then (n,NameKind.cell) else (n,k)).lookup x=some k->(k=.cell\/k=.free)->(x,NameKind.cell)∈names\/(x,NameKind.free)∈names
 | [],h,_=>by simp at h | (n,k')::r,h,hk=>by
  have ih:=@uo env x k r;change List.lookup x ((if (k'==NameKind.free&&env.scope.kind==.function&&env.kindOf n==some .cell)=true then (n,NameKind.cell) else (n,k'))::_)=_ at h;have step:(List.lookup x (r.map fun (n,k)=>if (k==NameKind.free&&env.scope.kind==.function&&env.kindOf n==some .cell) then (n,NameKind.cell) else (n,k))=some k)->(x,NameKind.cell)∈(n,k')::r\/(x,NameKind.free)∈(n,k')::r:=fun q=> (ih q hk).elim (fun z=>.inl (_t _ z)) fun z=>.inr (_t _ z);by_cases hc:(k'==NameKind.free&&env.scope.kind==.function&&env.kindOf n==some .cell)=true
  ·rw [_d hc,_H] at h;split at h
   ·rename_i hb;simp only [_D,_as] at hc;rw [_as.mp hb,hc.1.1];exact .inr _F
   ·exact step h
  ·rw [_o hc,_H] at h;split at h
   ·rename_i hb;cases h;rw [_as.mp hb];rcases hk with rfl | rfl;·exact .inl _F
    ·exact .inr _F
   ·exact step h
def inner(mp:List (Option Nat))(O:St):St:=mp.map fun o=>match o with | some j=>(O[j]?).getD none | none=>none
def z1n(N:List Str)(names:List (Str×NameKind)):List Str->List (Option Nat)->Bool
 | [],[]=>true | _::r,none::mp=>z1n N names r mp | x::r,some j::mp=>N[j]? == some x&&names.lookup x==some .free&&z1n N names r mp | _,_=>false
theorem z3Q{N:List Str}{names:List (Str×NameKind)}:∀ {N':List Str}{mp:List (Option Nat)},z1n N names N' mp=true->mp.length=N'.length
 | [],[],_=>rfl | _::_,none::_,h=>by
  simp only [z1n] at h;simp only [_i];rw [z3Q h] | _::_,some _::_,h=>by
  simp only [z1n,_D] at h;simp only [_i];rw [z3Q h.2] | [],none::_,h=>by cases h | [],some _::_,h=>by cases h | _::_,[],h=>by cases h
theorem z7i{N:List Str}{names:List (Str×NameKind)}:∀ {N':List Str}{mp:List (Option Nat)}{i j:Nat}{x:Str},z1n N names N' mp=true->N'[i]? = some x->mp[i]? = some (some j)->N[j]? = some x/\names.lookup x=some .free
 | [],_,_,_,_,_,h,_=>by simp at h | _::_,[],_,_,_,_,_,h=>by simp at h | _::_,none::_,0,_,_,_,_,h=>by simp at h | _::_,some _::_,0,_,_,h,h1,h2=>by
  simp only [z1n,_D,_as] at h;simp at h1 h2;subst h1 h2;exact h.1 | _::_,none::_,i+1,_,_,h,h1,h2=>by
  simp only [z1n] at h;exact z7i (i:=i) h (by simpa using h1) (by simpa using h2) | _::_,some _::_,i+1,_,_,h,h1,h2=>by
  simp only [z1n,_D] at h;exact z7i (i:=i) h.2 (by simpa using h1) (by simpa using h2)
section
variable {X:Cx}{pins:List (Addr×Obj)}{O:St}{H:Hp}{s s1:Shared}{scope:Scope}{N':List Str}{ex:List Addr}{mp:List (Option Nat)}
theorem z96{α:Type}{x:Str}{l1 l2:List (Str×α)}{c:α}(h:(l1++l2).lookup x=some c):l1.lookup x=some c\/(l1.lookup x=none/\l2.lookup x=some c):=by
 rw [_bt] at h;cases e:l1.lookup x with
 | some d=>rw [e] at h;exact .inl h | none=>rw [e] at h;exact .inr ⟨rfl,h⟩
theorem z3A (I:Inv X pins O H s) (hkd:scope.kind=.function) (hnm:∀ y∈scope.names,scope.names.lookup y.1=some y.2) (hfr:∀ y∈scope.names,y.2=.free->X.env.kindOf y.1=some .cell\/X.env.kindOf y.1=some .free) (hmp:z1n X.N scope.names N' mp=true) (hex:∀ b∈ex,b<s.heap.objs.size/\H b=none/\b≠X.env.locals/\b∉X.fs/\(b∈X.ex\/X.s₀.heap.objs.size<=b)/\(∀ x c,X.env.cells.lookup x=some c->c≠b)) (e1:s1.heap=pushCells (s.heap.push {cls:=.type "dict",data:=.dict #[]}) scope.names) (e2:s1.os=s.os) (e3:s1.gens=s.gens): Inv (zw X N' scope ex s H) [] (inner mp O) H s1:=by
 have keep:∀ b o,s.heap.get? b=some o->s1.heap.get? b=some o:=fun b o e=>by rw [e1];exact _bX _ _ b o (_b _ e)
 have ok:=cellsFrom_ok scope.names (s.heap.push {cls:=.type "dict",data:=.dict #[]}) (s.heap.objs.size+1) [] ⟨fun _ _ hm=>(nomatch hm),List.Pairwise.nil⟩ (by rw [_aa];exact _j _);rw [_aa,<- e1] at ok;have hclo:∀ x c,(z4c X.env scope.names []).lookup x=some c->X.env.cells.lookup x=some c:=z2t scope.names [] (fun x c h=>by simp at h);have clt:∀ x c,X.env.cells.lookup x=some c->c<s.heap.objs.size:=fun x c h=>by obtain ⟨v,q⟩:=I.cell x c h;exact q.lt
 have own:∀ x c,(cellsFrom (s.heap.objs.size+1) scope.names []).lookup x=some c->s1.heap.IsCell c none/\s.heap.objs.size+1<=c:=fun x c h=>ok.empty x c (_S h);have both:∀ x c,(z4N X scope s.heap.objs.size).cells.lookup x=some c->((cellsFrom (s.heap.objs.size+1) scope.names []).lookup x=some c/\s1.heap.IsCell c none/\s.heap.objs.size+1<=c)\/(X.env.cells.lookup x=some c):=fun x c h=>by
  rcases z96 h with q | ⟨_,q⟩;·exact .inl ⟨q,own x c q⟩
  ·exact .inr (hclo x c q)
 refine ⟨⟨I.ok.mod,hkd,I.ok.glob,I.ok.blt,_j _,fun x y c h1 h2=>?_,fun x hx=>?_,fun x c hf h=>?_,I.ok.hd,I.ok.frames,.inl rfl,fun b hb=>⟨_u (hex b hb).1,fun x c h=>?_⟩,fun b o e=>I.bs b o e,_R I.ok.bsz I.sz,fun b o e hb=>?_,fun b hb hf=>?_,I.stack,I.stkFree⟩, e2,by rw [e3];exact I.bare,Un.kept keep,?_,fun x c h=>?_,I.hok.fresh (_j _),fun x c h=>?_,fun p hp=>absurd (show p∈([]:List (Addr×Obj)) from hp) (by simp),I.hok.kept keep,?_⟩
 ·rcases both x c h1 with ⟨q1,_,l1⟩ | q1<;>rcases both y c h2 with ⟨q2,_,l2⟩ | q2;·exact name_of_addr ok.apart (_S q1) (_S q2)
  ·exact absurd (_q (clt y c q2) (_cu l1)) (_af _)
  ·exact absurd (_q (clt x c q1) (_cu l2)) (_af _)
  ·exact I.ok.inj x y c q1 q2
 ·have hx':(x,NameKind.cell)∈scope.names\/(x,NameKind.free)∈scope.names:=by
   rcases hx with hx | hx;·exact uo (env:=X.env) hx (.inl rfl)
   ·exact uo (env:=X.env) hx (.inr rfl)
  show ∃ c,(cellsFrom (s.heap.objs.size+1) scope.names []++z4c X.env scope.names []).lookup x=some c;rw [_bt];cases e:(cellsFrom (s.heap.objs.size+1) scope.names []).lookup x with
  | some c=>exact ⟨c,rfl⟩ | none=>
   rcases hx' with hx' | hx'
   ·obtain ⟨c,q⟩:=z1p (sc:=scope) (n:=s.heap.objs.size+1) (hnm (x,.cell) hx');rw [q] at e;cases e
   ·obtain ⟨c,q⟩:=z3E (env:=X.env) scope.names [] hx' (I.ok.has x (hfr (x,.free) hx' rfl));exact ⟨c,by simpa using q⟩
 ·have hf':scope.names.lookup x=some .cell:=_as.mp hf;obtain ⟨c',q⟩:=z1p (sc:=scope) (n:=s.heap.objs.size+1) hf';have h':(cellsFrom (s.heap.objs.size+1) scope.names []++z4c X.env scope.names []).lookup x=some c:=h;rw [_bt,q] at h';have e:c'=c:=_I h';subst e;exact _cV (Nat.lt_of_succ_le (own x c' q).2)
 ·rcases both x c h with ⟨_,_,l⟩ | q
  ·intro z;rw [z] at l;exact absurd (_q (hex b hb).1 (_cu l)) (_af _)
  ·exact (hex b hb).2.2.2.2.2 x c q
 ·rcases (hex b hb).2.2.2.2.1 with z | z;·exact I.ok.noex b o e z
  ·exact absurd (_q (_q (_m e) I.ok.bsz) z) (_af _)
 ·have q:=I.stkSub b hf;rcases _r.mp q with z | z;·exact (hex b hb).2.2.1 z
  ·exact (hex b hb).2.2.2.1 z
 ·refine ⟨fun _=>none,?_,fun i x v h1 h2 h3=>?_⟩
  ·rw [e1];exact (Heap.Ns.new s.heap (.type "dict")).keeps (_bX _ _)
  ·have h2':(inner mp O)[i]? = some (some v):=h2;unfold inner at h2';rw [_Z] at h2';cases em:mp[i]? with
   | none=>rw [em] at h2';cases h2' | some o=>
    rw [em] at h2';cases o with
    | none=>cases h2' | some j=>
     obtain ⟨hj,hl⟩:=z7i hmp h1 em;have hmem:(x,NameKind.free)∈scope.names:=_S hl;have hv:O[j]? = some (some v):=by
      simp only [_T] at h2';cases eO:O[j]? with
      | none=>rw [eO] at h2';cases h2' | some o=>rw [eO] at h2';exact h2'
     obtain ⟨m,hn,hlook⟩:=I.loc;have kx:X.env.kindOf x=some .cell\/X.env.kindOf x=some .free:=hfr _ hmem rfl;obtain ⟨u,r,L⟩:=hlook j x v hj hv (by rcases kx with k | k;exact .inr (.inl k);exact .inr (.inr k));refine ⟨u,r,.inr ?_⟩;rcases L with ⟨k,_⟩ | ⟨_,c,hc,hcell⟩;·rcases kx with k' | k'<;>(rw [k] at k';cases k')
     ·have ncell:(x,NameKind.cell)∉scope.names:=fun z=>by
       have a:=hnm _ z;rw [hl] at a;cases a
      refine ⟨?_,c,?_,hcell.keeps keep⟩
      ·rcases jQ (env:=X.env) hl with q | ⟨_,q⟩;·exact .inr q
       ·exact .inl q
      ·show (cellsFrom (s.heap.objs.size+1) scope.names []++z4c X.env scope.names []).lookup x=some c;rw [_bt];cases e:(cellsFrom (s.heap.objs.size+1) scope.names []).lookup x with
       | some c'=> exact absurd ((uW _ _ _ (_S e)).resolve_left (by simp)) ncell | none=>
        obtain ⟨c2,q⟩:=z3E (env:=X.env) scope.names [] hmem ⟨c,hc⟩;have q2:=hclo x c2 q;rw [hc] at q2;cases q2;simpa using q
 ·rcases both x c h with ⟨_,q,_⟩ | q;·exact ⟨_,q⟩
  ·obtain ⟨v,z⟩:=I.cell x c q;exact ⟨v,z.keeps keep⟩
 ·rcases both x c h with ⟨_,_,l⟩ | q;·exact I.hok.fresh (by omega)
  ·exact I.freeC x c q
 ·unfold inner;rw [_J];exact z3Q hmp
end
section
variable {M:Model}{A:Around}{E:Value->Shared->Prop}{s:Shared}
theorem z2x{scope:Scope}{env:Env}{cl:List (Str×Addr)}{Q:Env->Shared->Prop} (h:Q {scope:=scope,locals:=s.heap.objs.size,globals:=env.globals,cells:=cellsFrom (s.heap.objs.size+1) scope.names cl,qual:=env.qual,func:=none,code:=env.code,frame:=env.frame,builtins:=env.builtins} {s with heap:=pushCells (s.heap.push {cls:=.type "dict",data:=.dict #[]}) scope.names}): wpAny M A (newFunctionEnv scope env.globals cl [] env.qual none .none (some env)) Q E s:=by
 simp only [newFunctionEnv,Option.isSome_some,_A];refine _a (wpAny_alloc ?_);refine _a (wpAny_layCells _ (fun name kind cells=>by cases hkc:kind==NameKind.cell<;>simp [hkc]) _ _ _ _ ?_);rw [show ({s with heap:=s.heap.push {cls:=.type "dict",data:=.dict #[]}}:Shared).heap.objs.size=s.heap.objs.size+1 from _aa ..];refine _a ?_;rw [List.forIn_nil];exact _g (_g h)
end
section
variable {prog:Program}{w:World}{A:Around}{E:Value->Shared->Prop}{R:Result->Shared->Prop}{s:Shared}
theorem z5g{elt target iter:Expr}{ifs:List Expr}{scope:Scope}{pos:Pos}{it acc:Value}{env:Env}(I:Nat->Shared->Prop) (turn:∀ n s,I n s->wpAny (model prog w) A (pyNext it) (fun r s₁=>match r with
   | none=>R (.ok .next) s₁ | some v=>wpAny (model prog w) A (letOwnedTupleGo target it v) (fun _ s₁'=>wpAny (model prog w) A (assign target env v) (fun _ s₂=> wpAny (model prog w) A (forIn ifs true fun c r=>if r=true then do let ok <- isTrue c env (eval c env);pure (ForInStep.yield ok) else pure (ForInStep.yield r)) (fun ok s₃=> if ok=true then wpAny (model prog w) A (eval elt env) (fun x s₄=> wpAny (model prog w) A (call (.builtin "list.append") [acc,x]) (fun _ s₅=>∃ m,m<n/\I m s₅) (fun _ _=>False) s₄) (fun _ _=>False) s₃ else ∃ m,m<n/\I m s₃) (fun _ _=>False) s₂) (fun _ _=>False) s₁') (fun _ _=>False) s₁) (fun _ _=>False) s) (n:Nat)(h:I n s): codeAny (model prog w) A (.compLoop (.ListComp elt [⟨target,iter,ifs,0⟩] scope pos) 0 it acc env) R s:=by
 refine codeAny_loop rfl I (fun n s hI=>?_) n h;show wpAny _ A ((compTurn (.ListComp elt [⟨target,iter,ifs,0⟩] scope pos) 0 it acc env).onRaise (fun x=>do noteFrame x env;theTreesLotGoes x)) _ _ s;refine wpAny_noted ?_;rw [compTurn_list];refine _a (_bn (_a (_x (turn n s hI) (fun r s₁ h₁=>?_) fun _ _ h'=>h'.elim)));cases r with
 | none=>exact _g h₁ | some v=>
  refine _a (_x h₁ (fun _ s₁' h₁'=>?_) fun _ _ h'=>h'.elim);refine _a (_x h₁' (fun _ s₂ h₂=>_a (_x h₂ (fun ok s₃ h₃=>?_) fun _ _ h'=>h'.elim)) fun _ _ h'=>h'.elim);cases ok with
  | false=>exact _g ⟨rfl,h₃⟩ | true=> exact _a (_a (_x h₃ (fun x s₄ h₄=>_a (_x h₄ (fun _ s₅ h₅=>_g (_g ⟨rfl,h₅⟩)) fun _ _ h'=>h'.elim)) fun _ _ h'=>h'.elim))
end
def z4S(X:Cx)(ifs:List Expr)(t:TT):Prop:= ∀ (pins:List (Addr×Obj))(s:Shared)(O:St)(H:Hp)(Q:Bool->Hp->Prop),Inv X pins O H s->t O H Q-> wpAny (model X.prog X.w) X.A (forIn ifs true fun c r=>if r=true then do let ok <- isTrue c X.env (eval c X.env);pure (ForInStep.yield ok) else pure (ForInStep.yield r)) (TP X pins O Q) X.xe s
theorem zcy{X:Cx}:z4S X [] (fun _ H Q=>Q true H):=fun _ _ _ H _ I h=>wpAny_tests_nil ⟨H,I,h⟩
theorem zcJ{X:Cx}{c:Expr}{t:TT}(h:PT X c t):z4S X [c] t:=fun pins s O H Q I hq=>wpAny_tests_one (h pins s O H Q I hq)
theorem Inv.track {X:Cx} {pins:List (Addr×Obj)} {O:St} {H:Hp} {s:Shared} {a:Addr} {o:HO} (I:Inv X pins O H s) (f:z2z X pins H a) (new:xn X.prog X.w (upd H a o) s.heap a o):Inv X pins O (upd H a o) s:=by
 obtain ⟨f0,f1,f2,f3,f4,f5⟩:=f;have hs:HOk X.prog X.w (upd H a o) s.heap:=fun b u e=>by
  by_cases hb:b=a;·subst hb;rw [yn] at e;cases e;exact new
  ·rw [zE hb] at e;exact (I.hok b u e).stay (fun _ _ _ q=>q) (fun c q=>by rw [zE (yE q f0)];exact q) fun c xs q=>by rw [zE (yE q f0)];exact q
 exact I.step (h':=s.heap) (g':=s.gens) (d':=s.drawn) (t':=s.toks) (ch:=[a]) (fun b hb=>by
  have e:b=a:=by simpa using hb
  subst e;exact ⟨f3,f1,f4,f5⟩) (fun b o _ _ _ e _=>e) (fun b o _ _ _ e _=>⟨o.slots,e⟩) (fun b o hb _ n=>by rw [zE (fun z=>hb (by simp [z]))];exact n) (fun b o _ e=>⟨o,e⟩) (fun b xs q=>by rw [zE (yE q f0)];exact q) (fun b u xs q=>by rw [zE (yE q f0)];exact q) (fun b ps q=>⟨#[],by rw [zE (yE q f0),q];simp⟩) (fun _ q=>q) hs I.bare
def zb9(wi:TI)(mp:List (Option Nat))(g:TG)(ti:TT)(te:TE):TE:=fun O H Q=>wi O H fun J H1=>∃ W:Nat->Nat->List V->Hp->Prop,(∃ m,W 0 m [] H1)/\∀ i m ys H,W i m ys H-> (J.stop i H/\ys.length<=sizeLine/\∀ p,H p=none->Q (.ref p) (upd H p (.lst ys)))\/ (J.go i H/\∀ x H',J.yld i H x H'->g x (inner mp O) H' fun O2 H2=>(O2.length=(inner mp O).length/\∀ (i:Nat) v,(inner mp O)[i]? = some (some v)->O2[i]? = some (some v))/\ ti O2 H2 fun b H3=>if b=true then te O2 H3 fun y H4=>ys.length<=sizeLine/\∃ m',m'<m/\W (i+1) m' (ys++[y]) H4 else ∃ m',m'<m/\W (i+1) m' ys H3)
def kI(X:Cx)(pins:List (Addr×Obj))(O:St)(C:Addr)(Q:VK)(acc:Value)(s':Shared):Prop:= ∃ v Hf,Inv X pins O Hf s'/\xK v acc/\Q v Hf/\(∃ m,s'.heap.Ns C m)/\z2z X pins Hf C
theorem z0g {X:Cx} {tg iter elt:Expr} {ifs:List Expr} {scope:Scope} {pos:Pos} {g:TG} {ti:TT} {te:TE} {N':List Str} {mp:List (Option Nat)} {pins:List (Addr×Obj)} {O:St} {Q:VK} {J:It} {H2:Hp} {s₂:Shared} {it:Addr} {fp:List Addr} {tn:Nat->Heap->Prop} {E:Value->Shared->Prop} {RR:Value->Addr->Result->Shared->Prop} (hc:X.calm=true) (hg:∀ ex s H,PG (zw X N' scope ex s H) tg g) (ht:∀ ex s H,z4S (zw X N' scope ex s H) ifs ti) (he:∀ ex s H,PE (zw X N' scope ex s H) elt te) (hkd:scope.kind=.function) (hnm:∀ y∈scope.names,scope.names.lookup y.1=some y.2) (hfr:∀ y∈scope.names,y.2=.free->X.env.kindOf y.1=some .cell\/X.env.kindOf y.1=some .free) (hmp:z1n X.N scope.names N' mp=true) (I2:Inv X pins O H2 s₂) (T:zbW X.prog X.w X.K tg J fp it tn) (st2:tn 0 s₂.heap) (f2:∀ b∈fp,z2z X pins H2 b) (W:Nat->Nat->List V->Hp->Prop) (w0:∃ m,W 0 m [] H2) (turn:∀ i m ys H,W i m ys H-> (J.stop i H/\ys.length<=sizeLine/\∀ p,H p=none->Q (.ref p) (upd H p (.lst ys)))\/ (J.go i H/\∀ x H',J.yld i H x H'->g x (inner mp O) H' fun O2 H2=>(O2.length=(inner mp O).length/\∀ (i:Nat) v,(inner mp O)[i]? = some (some v)->O2[i]? = some (some v))/\ ti O2 H2 fun b H3=>if b=true then te O2 H3 fun y H4=>ys.length<=sizeLine/\∃ m',m'<m/\W (i+1) m' (ys++[y]) H4 else ∃ m',m'<m/\W (i+1) m' ys H3)) (hRR:∀ acc C s',kI X pins O C Q acc s'->RR acc C (.ok .next) s'): wpAny (model X.prog X.w) X.A (newList []) (fun acc s₃=>wpAny (model X.prog X.w) X.A (newFunctionEnv scope X.env.globals (z4c X.env scope.names []) [] X.env.qual none .none (some X.env)) (fun cenv s₄=> codeAny (model X.prog X.w) X.A (.compStart (.ListComp elt [⟨tg,iter,ifs,0⟩] scope pos) 0 (.ref it) acc {cenv with scope:=relabel scope X.env}) (RR acc cenv.locals) s₄) E s₃) E s₂:=by
 refine _M ?_;have hf2:H2 s₂.heap.objs.size=none:=I2.hok.fresh (_j _);have fA:z2z X pins H2 s₂.heap.objs.size:=I2.fpOk (_j _) hf2;generalize hacc:s₂.heap.objs.size=acc at hf2 fA ⊢;have I3:Inv X pins O H2 {s₂ with heap:=s₂.heap.push {cls:=.type "list",data:=.seq ([]:List Value).toArray}}:=I2.kept (t':=s₂.toks) fun b o e=>_b _ e;have ha3:(s₂.heap.push {cls:=.type "list",data:=.seq ([]:List Value).toArray}).get? acc=some (LCg.lst []):=by rw [<- hacc];exact _n _ rfl
 have sz3:(s₂.heap.push {cls:=.type "list",data:=.seq ([]:List Value).toArray}).objs.size=acc+1:=by rw [_aa,hacc]
 have kp3:∀ b o,s₂.heap.get? b=some o->(s₂.heap.push {cls:=.type "list",data:=.seq ([]:List Value).toArray}).get? b=some o:=fun b o e=>_b _ e;show wpAny _ _ _ _ _ {s₂ with heap:=s₂.heap.push {cls:=.type "list",data:=.seq ([]:List Value).toArray}};generalize hs3:({s₂ with heap:=s₂.heap.push {cls:=.type "list",data:=.seq ([]:List Value).toArray}}:Shared)=s₃ at I3 ⊢;have ha3':s₃.heap.get? acc=some (LCg.lst []):=by rw [<- hs3];exact ha3
 have sz3':s₃.heap.objs.size=acc+1:=by rw [<- hs3];exact sz3
 have kp3':∀ b o,s₂.heap.get? b=some o->s₃.heap.get? b=some o:=by rw [<- hs3];exact kp3
 have flt:∀ b∈fp,b<acc:=fun b hb=>by
  obtain ⟨o,e,_⟩:=T.obj 0 _ st2 b hb;rw [<- hacc];exact _m e
 have fne:∀ b∈fp,b≠acc:=fun b hb=>_u (flt b hb);have tn3:tn 0 s₃.heap:=T.keep 0 _ _ st2 fun b hb o e=>kp3' b o e;refine z2x ?_;rw [wo];have hex:∀ b∈acc::fp,b<s₃.heap.objs.size/\H2 b=none/\b≠X.env.locals/\b∉X.fs/\(b∈X.ex\/X.s₀.heap.objs.size<=b)/\(∀ x c,X.env.cells.lookup x=some c->c≠b):=fun b hb=>by
  rcases _r.mp hb with z | hb
  ·subst z;exact ⟨by rw [sz3'];exact _a1 _,hf2,fA.2.1,fA.2.2.1,fA.2.2.2.1,fA.2.2.2.2.1⟩
  ·have q:=f2 b hb;exact ⟨by rw [sz3'];exact _ai (flt b hb),q.1,q.2.1,q.2.2.1,q.2.2.2.1,q.2.2.2.2.1⟩
 have I4:=z3A (N':=N') (mp:=mp) (ex:=acc::fp) (s1:={s₃ with heap:=pushCells (s₃.heap.push {cls:=.type "dict",data:=.dict #[]}) scope.names}) I3 hkd hnm hfr hmp hex rfl rfl rfl;have kp4:∀ b o,s₃.heap.get? b=some o->(pushCells (s₃.heap.push {cls:=.type "dict",data:=.dict #[]}) scope.names).get? b=some o:=fun b o e=>_bX _ _ b o (_b _ e);generalize hs4:({s₃ with heap:=pushCells (s₃.heap.push {cls:=.type "dict",data:=.dict #[]}) scope.names}:Shared)=s₄ at I4 ⊢;have ha4:s₄.heap.get? acc=some (LCg.lst []):=by rw [<- hs4];exact kp4 _ _ ha3'
 have tn4:tn 0 s₄.heap:=T.keep 0 _ _ tn3 fun b hb o e=>by rw [<- hs4];exact kp4 b o e
 have Cne:acc≠s₃.heap.objs.size:=by rw [sz3'];exact _u (_a1 _)
 have celln:∀ b∈acc::fp,∀ x c,(z4N X scope s₃.heap.objs.size).cells.lookup x=some c->c≠b:=fun b hb=>(I4.ok.exf b hb).2;have stat:∀ {H':Hp} {o:Obj},(∀ b∈fp,H' b=none)->∀ b∈fp,z2z (zw X N' scope (acc::fp) s₃ H2) [(acc,o)] H' b:=fun {H' o} hn b hb=> ⟨hn b hb,_u (by show b<s₃.heap.objs.size;rw [sz3'];exact _ai (flt b hb)),fun hf=>I4.ok.exfs b (_t _ hb) hf,.inl (_t _ hb),celln b (_t _ hb),fun p hp=>by
   have e:p=(acc,o):=by simpa [zw] using hp
   rw [e];exact _aE (fne b hb)⟩;have pinA:∀ {O':St} {H':Hp} {s':Shared} {its:List Value},Inv (zw X N' scope (acc::fp) s₃ H2) [] O' H' s'->H' acc=none->s'.heap.get? acc=some (LCg.lst its)->Inv (zw X N' scope (acc::fp) s₃ H2) [(acc,LCg.lst its)] O' H' s':=fun {O' H' s' its} J' n' e'=> J'.pins_of fun p hp=>by
   have e:p=(acc,LCg.lst its):=by simpa using hp
   subst e;refine ⟨e',n',Cne,fun hf=>I4.ok.exfs acc _F hf,fun v z=>?_⟩;have z':Data.seq _ _=Data.cell v:=z;cases z'
 obtain ⟨m0,w0⟩:=w0;have loop:codeAny (model X.prog X.w) X.A (.compLoop (.ListComp elt [⟨tg,iter,ifs,0⟩] scope pos) 0 (.ref it) (.ref acc) (z4N X scope s₃.heap.objs.size)) (RR (.ref acc) s₃.heap.objs.size) s₄:=by
  refine z5g (fun n s'=>∃ i ys its H',Inv (zw X N' scope (acc::fp) s₃ H2) [] (inner mp O) H' s'/\tn i s'.heap/\(∀ b∈fp,H' b=none)/\H' acc=none/\s'.heap.get? acc=some (LCg.lst its)/\yA ys its/\W i n ys H') ?_ m0 ⟨0,[],[],H2,I4,tn4,fun b hb=>(f2 b hb).1,hf2,ha4,.nil,w0⟩;rintro n s5 ⟨i,ys,its,H5,I5,tn5,n5,na5,ea5,rv5,w5⟩;have I5':=pinA I5 na5 ea5;rcases turn i n ys H5 w5 with ⟨stop,hz,q⟩ | ⟨go,step⟩
  ·refine _x (T.done (zw X N' scope (acc::fp) s₃ H2) rfl rfl rfl hc i _ s5 _ H5 (fun _ _=>False) I5' (stat n5) tn5 stop) (fun r s6 ⟨hr,I6⟩=>?_) fun _ _ z=>z;subst hr;have ea6:=(I6.pin (acc,LCg.lst its) (by simp)).1;have un:Un (frs X.stack) (acc::fp) H2 H5 s₃.heap s6.heap:=I6.base;have I7:Inv X pins O H5 s6:=I3.call' (s':=s6) (I6.os) un I6.hok I6.bare fun b hb=>by
    rcases _r.mp hb with z | hb;·subst z;exact ⟨fA.2.2.2.1,fA.2.1,fA.2.2.2.2.1,fA.2.2.2.2.2⟩
    ·exact ⟨(f2 b hb).2.2.2.1,(f2 b hb).2.1,(f2 b hb).2.2.2.2.1,(f2 b hb).2.2.2.2.2⟩
   have C7:z2z X pins H5 s₃.heap.objs.size:=I3.fpOk (_j _) I6.free;refine hRR _ _ s6 ⟨.ref acc,upd H5 acc (.lst ys),I7.track ⟨na5,fA.2⟩ ?_,rfl,q acc na5,?_,?_,C7.2⟩;·exact ⟨hz,its,_,rv5,ea6⟩
   ·obtain ⟨m,hm,_⟩:=I6.loc;exact ⟨m,hm⟩
   ·rw [zE (_aE Cne)];exact I6.free
  ·refine _x (T.item (zw X N' scope (acc::fp) s₃ H2) rfl rfl rfl hc i _ s5 _ H5 (fun _ _=>False) I5' (stat n5) tn5 go) (fun r s6 ⟨u,hr,h6⟩=>?_) fun _ _ z=>z;subst hr;refine _x h6 (fun _ s7 ⟨x,H7,I7,r7,y7,tn7,n7⟩=>?_) fun _ _ z=>z;have I7':=I7.pinned (stat n7) (T.obj _ _ tn7);refine _x (hg _ _ _ _ s7 (inner mp O) H7 x u _ I7' r7 (step x H7 y7)) (fun _ s8 ⟨O8,H8,I8,⟨kl,kv⟩,q8⟩=>?_) fun _ _ z=>z;refine _x (ht _ _ _ _ s8 O8 H8 _ I8 q8) (fun b s9 ⟨H9,I9,q9⟩=>?_) fun _ _ z=>z;have pinB:∀ {O':St} {H':Hp} {s':Shared},Inv (zw X N' scope (acc::fp) s₃ H2) ([(acc,LCg.lst its)]++z3v fp s7.heap) O' H' s'->(∀ b∈fp,H' b=none)/\H' acc=none/\s'.heap.get? acc=some (LCg.lst its)/\tn (i+1) s'.heap/\∀ b∈fp,∀ o,s7.heap.get? b=some o->s'.heap.get? b=some o:=fun {O' H' s'} J'=>by
    have z:=J'.pin (acc,LCg.lst its) (by simp [zw]);have zz:∀ b∈fp,∀ o,s7.heap.get? b=some o->s'.heap.get? b=some o/\H' b=none:=fun b hb o e=>by
     have y:=J'.pin (b,o) (_z _ (_z _ (vA hb e)));exact ⟨y.1,y.2.1⟩
    refine ⟨fun b hb=>?_,z.2.1,z.1,T.keep _ _ _ tn7 fun b hb o e=>(zz b hb o e).1,fun b hb o e=>(zz b hb o e).1⟩;obtain ⟨o,e,_⟩:=T.obj _ _ tn7 b hb;exact (zz b hb o e).2
   cases b with
   | false=>
    rw [_o (by decide)] at q9 ⊢;obtain ⟨m',lt,w9⟩:=q9;obtain ⟨z1,z2,z3,z4,_⟩:=pinB I9;exact ⟨m',lt,i+1,ys,its,H9,(I9.pins_of (pins':=[]) (fun p hp=>absurd hp (by simp))).weak kl.symm kv,z4,z1,z2,z3,rv5,w9⟩ | true=>
    rw [_d rfl] at q9 ⊢;refine _x (he _ _ _ _ s9 O8 H9 _ I9 q9) (fun yv s10 ⟨y,H10,I10,r10,hz,m',lt,w10⟩=>?_) fun _ _ z=>z;obtain ⟨z1,z2,z3,z4,_⟩:=pinB I10;have zl:its.toArray.size<=sizeLine:=by rw [_k,<- rv5.length];exact hz
    refine append_at (hsz:=zl) z3 fun h11 sb ea11=>?_;have I10':=(I10.pins_of (pins':=[]) (fun p hp=>absurd hp (by simp))).weak kl.symm kv;have I11:Inv (zw X N' scope (acc::fp) s₃ H2) [] (inner mp O) H10 {s10 with heap:=h11}:=I10'.turned (t':=s10.toks) (fun b o hb e=>(sb.2 b hb).trans e) z2 Cne (.inl _F) (celln acc _F) (fun p hp=>absurd hp (by simp [zw]));exact ⟨m',lt,i+1,ys++[y],its++[yv],H10,I11,T.keep _ _ _ z4 (fun b hb o e=>(sb.2 b (fne b hb)).trans e),z1,z2,ea11.trans (_am some (LCg.lst_snoc its yv)),rv5.append (.cons r10 .nil),w10⟩
 exact codeAny_compStart_list loop (T.self _ 0 _ _ _ tn4 loop)
section
variable {X:Cx}{tg iter elt:Expr}{ifs:List Expr}{scope:Scope}{pos spos py:Pos}{wi:TI}{g:TG}{ti:TT}{te:TE}{N':List Str}{mp:List (Option Nat)}
theorem qC{pins:List (Addr×Obj)}{O:St}{H:Hp}{s:Shared}{h':Heap}{C:Addr}(I:Inv X pins O H s)(f:z2z X pins H C)(sb:Heap.SameBut C s.heap h'):Inv X pins O H {s with heap:=h'}:= I.turned (t':=s.toks) (fun b o hb e=>(sb.2 b hb).trans e) f.1 f.2.1 f.2.2.2.1 f.2.2.2.2.1 f.2.2.2.2.2
theorem zae (N':List Str) (mp:List (Option Nat)) (hc:X.calm=true) (hi:PI X tg iter wi) (hg:∀ ex s H,PG (zw X N' scope ex s H) tg g) (ht:∀ ex s H,z4S (zw X N' scope ex s H) ifs ti) (he:∀ ex s H,PE (zw X N' scope ex s H) elt te) (hkd:scope.kind=.function) (hnm:∀ y∈scope.names,scope.names.lookup y.1=some y.2) (hfr:∀ y∈scope.names,y.2=.free->X.env.kindOf y.1=some .cell\/X.env.kindOf y.1=some .free) (hmp:z1n X.N scope.names N' mp=true) (hs:∀ x,foldedSetIterable iter X.env x=pure x:=by intro _;rfl):PE X (.ListComp elt [⟨tg,iter,ifs,0⟩] scope pos) (zb9 wi mp g ti te):=by
 intro pins s O H Q I h;rw [eval_ListComp];refine _aV (use:=none) rfl hs (vp fun y hy hf=>I.ok.has _ (hfr y hy hf)) hkd (fun y hy hl=>by rw [hnm y hy,hl]) (thn (hi pins s O H _ I h) fun xv s₁ h₁=>thn h₁ fun itv s₂ h₂=>?_);obtain ⟨it,fp,tn,J,H2,e,I2,T,st2,f2,W,w0,turn⟩:=h₂;subst e;refine z0g (N':=N') (mp:=mp) (O:=O) (pins:=pins) (Q:=Q) (RR:=fun acc C=>compPost (model X.prog X.w) X.A X.xe none (EP X pins O Q) acc C) hc hg ht he hkd hnm hfr hmp I2 T st2 f2 W w0 turn ?_;rintro acc C s' ⟨v,Hf,I3,r,q,⟨m,hm⟩,f⟩;exact ⟨m,hm,fun h' sb=>⟨v,Hf,qC I3 f sb,r,q⟩⟩
theorem z8U {i:Nat} {y:Str} (N':List Str) (mp:List (Option Nat)) (hN:X.N.Nodup) (hy:X.N[i]? = some y) (hyl:Loc X.env.scope y) (hc:X.calm=true) (hi:PI X tg iter wi) (hg:∀ ex s H,PG (zw X N' scope ex s H) tg g) (ht:∀ ex s H,z4S (zw X N' scope ex s H) ifs ti) (he:∀ ex s H,PE (zw X N' scope ex s H) elt te) (hkd:scope.kind=.function) (hnm:∀ y∈scope.names,scope.names.lookup y.1=some y.2) (hfr:∀ y∈scope.names,y.2=.free->X.env.kindOf y.1=some .cell\/X.env.kindOf y.1=some .free) (hmp:z1n X.N scope.names N' mp=true) (hs:∀ x,foldedSetIterable iter X.env x=pure x:=by intro _;rfl) (hsw:swapsWith (.ListComp elt [⟨tg,iter,ifs,0⟩] scope pos) (some (.Name y py)) spos.line X.env=pure true:=by rfl) (hf:X.fn y=true\/X.env.scope.names.lookup y=some .local:=by first | exact .inl rfl | exact .inr rfl | assumption): PS X (.Assign [.Name y py] (.ListComp elt [⟨tg,iter,ifs,0⟩] scope pos) spos) (zi6 (zb9 wi mp g ti te) (z8o i)):=by
 intro pins s O H D I h;rw [exec_Assign_Name_used _ _ _ _ hsw];refine _a (_bn (_a ?_));show wpAny _ X.A (do let _ <- comprehension (.ListComp elt [⟨tg,iter,ifs,0⟩] scope pos) scope X.env _ (newList []) false (eval iter X.env) (some (assign (.Name y py) X.env))) _ _ s;refine _a (_x (_aV (use:=some (assign (.Name y py) X.env)) (Q:=fun _ s'=>SP X pins D .next s') rfl hs (vp fun y hy hf=>I.ok.has _ (hfr y hy hf)) hkd (fun y hy hl=>by rw [hnm y hy,hl]) (thn (hi pins s O H _ I h) fun xv s₁ h₁=>thn h₁ fun itv s₂ h₂=>?_)) (fun _ s' hq=>_g (_g hq)) fun _ _ e=>e);obtain ⟨it,fp,tn,J,H2,e,I2,T,st2,f2,W,w0,turn⟩:=h₂;subst e;refine z0g (N':=N') (mp:=mp) (O:=O) (pins:=pins) (Q:=fun v H'=>D.nx (O.set i (some v)) H') (RR:=fun acc C=>compPost (model X.prog X.w) X.A X.xe (some (assign (.Name y py) X.env)) (fun _ s'=>SP X pins D .next s') acc C) hc hg ht he hkd hnm hfr hmp I2 T st2 f2 W w0 turn ?_;rintro acc C s' ⟨v,Hf,I3,r,q,⟨m,hm⟩,f⟩;refine _cp (z2i I3 hN hy hyl r (fun s'' I4 ⟨a,sb,ha⟩=>?_) hf);have hC:C≠a:=by
  rcases ha with z | z;·rw [z];exact f.2.1
  ·exact _aE (f.2.2.2.2.1 y a z)
 exact ⟨m,hm.sameBut sb hC,fun h' sb'=>⟨_,Hf,qC I4 f sb',q⟩⟩
end
end L2
set_option maxHeartbeats 4000000
namespace Dd
open L2
theorem z7L(xs:List Expr)(k:Nat)(p:Pos)(es:List Expr)(env:Env):starEach (.Tuple xs k p::es) env=(false,eval (.Tuple xs k p) env)::starEach es env:=rfl
theorem zcj(xs:List Expr)(p:Pos)(es:List Expr)(env:Env):starEach (.List xs p::es) env=(false,eval (.List xs p) env)::starEach es env:=rfl
theorem vB(f:Expr)(xs:List Expr)(ks:List Keyword)(p:Pos)(es:List Expr)(env:Env):starEach (.Call f xs ks p::es) env=(false,eval (.Call f xs ks p) env)::starEach es env:=rfl
theorem zbS(a:Expr)(o:Operator)(b:Expr)(p:Pos)(es:List Expr)(env:Env):starEach (.BinOp a o b p::es) env=(false,eval (.BinOp a o b p) env)::starEach es env:=rfl
theorem qh(a b:Expr)(p:Pos)(es:List Expr)(env:Env):starEach (.Subscript a b p::es) env=(false,eval (.Subscript a b p) env)::starEach es env:=rfl
theorem yR(a:Expr)(g:List Comprehension)(sc:Scope)(p:Pos)(es:List Expr)(env:Env):starEach (.ListComp a g sc p::es) env=(false,eval (.ListComp a g sc p) env)::starEach es env:=rfl
theorem z3L(a:Expr)(o:List CmpOp)(b:List Expr)(p:Pos)(es:List Expr)(env:Env):starEach (.Compare a o b p::es) env=(false,eval (.Compare a o b p) env)::starEach es env:=rfl
theorem z3x(c:Const)(j:Nat)(p:Pos)(es:List Expr)(env:Env):starEach (.Constant c j p::es) env=(false,eval (.Constant c j p) env)::starEach es env:=rfl
theorem zr(x:Str)(p:Pos)(es:List Expr)(env:Env):starEach (.Name x p::es) env=(false,eval (.Name x p) env)::starEach es env:=rfl
theorem zeU(o:UnaryOp)(a:Expr)(p:Pos)(es:List Expr)(env:Env):starEach (.UnaryOp o a p::es) env=(false,eval (.UnaryOp o a p) env)::starEach es env:=rfl
inductive D where | non | bl (b:Bool) | int (i:Int) | str (x:Str) | tup (xs:List D) | lst (xs:List D) | dct | loc (l:Nat) | dlo (l:Nat) | fn (x:Str) | exc (x:Str) | scr (xs:List D)
abbrev Sto:=List (List D)
abbrev Ev:=List (Option D)
inductive R(α:Type) where | ok (a:α)(s:Sto) | ex (c:Str)(s:Sto) | no
def R.bind{α β:Type}(r:R α)(k:α->Sto->R β):R β:=match r with
 | .ok a s=>k a s | .ex c s=>.ex c s | .no=>.no
@[simp] theorem R.bind_ok {α β:Type}(a:α)(s:Sto)(k:α->Sto->R β):(R.ok a s).bind k=k a s:=id rfl
abbrev Rb:=@R.bind_ok
@[simp] theorem R.bind_ex {α β:Type}(c:Str)(s:Sto)(k:α->Sto->R β):(R.ex c s:R α).bind k=.ex c s:=id rfl
def D.flat:D->Bool
 | .tup xs=>flats xs | .lst xs=>flats xs | .scr xs=>flats xs | .loc _=>false | .dlo _=>false | _=>true
where flats:List D->Bool
 | []=>true | x::xs=>x.flat&&flats xs
def zbV(C a:Addr):HO:=.ext fun h=>∃ o vs,h.get? a=some o/\o.cls=.ref C/\o.data=.fields vs
structure Gm where
 m:Str->Option Value
 K:W.Frag
abbrev gm(X:Cx):Gm:=⟨X.mg,X.K⟩
def IsL(H:Hp)(a:Addr):Prop:=∃ vs,H a=some (.lst vs)
def IsC(H:Hp)(a:Addr):Prop:=(∃ kvs,H a=some (.dT kvs))\/∃ o kvs,H a=some (.frz o (.dT kvs))
theorem IsL.notC{H:Hp}{a:Addr}(h:IsL H a)(h':IsC H a):False:=by obtain ⟨_,e⟩:=h;rcases h' with ⟨_,e'⟩ | ⟨_,_,e'⟩<;>rw [e] at e'<;>cases e'
def zjy:Key->D
 | .inl i=>.int i | .inr x=>.str x
def zkr:V->Option D
 | .int i=>some (.int i) | .bl b=>some (.bl b) | _=>none
def zja:List D->List (List Key×V)->Prop
 | [],kvs=>kvs=[] | d::ds,kvs=>∃ k v x r,kvs=(k,v)::r/\zkr v=some x/\d=.tup [.tup (k.map zjy),x]/\zja ds r
def KL(K:W.Frag)(a:Addr)(xs:List V):Prop:=∃ (o:Obj)(its:Array Value)(n:Nat),K.lookup a=some o/\o.cls=.type "list"/\o.dict=none/\o.data=.seq its n/\its.size<=sizeLine/\yA xs its.toList
section
variable (mg:Gm)
mutual
def Den(H:Hp)(Y:List Addr):D->V->Prop
 | .non,v=>v=.non | .bl b,v=>v=.bl b | .int i,v=>v=.int i | .str x,v=>v=.str x | .tup ds,v=>∃ a vs,v=.ref a/\H a=some (.tup vs)/\zA H Y ds vs | .lst ds,v=>∃ a o vs,v=.ref a/\H a=some (.frz o (.lst vs))/\zA H Y ds vs | .dct,v=>∃ a,v=.ref a/\H a=some (.dK []) | .loc l,v=>∃ a,v=.ref a/\Y[l]? = some a/\IsL H a | .dlo l,v=>∃ a,v=.ref a/\Y[l]? = some a/\IsC H a | .fn x,v=>∃ a,v=.ref a/\mg.m x=some (.ref a) | .exc x,v=>∃ a C,v=.ref a/\mg.m x=some (.ref C)/\H a=some (zbV C a) | .scr ds,v=>∃ a vs,v=.ref a/\((∃ o,H a=some (.frz o (.lst vs)))\/KL mg.K a vs)/\zA H Y ds vs
def zA(H:Hp)(Y:List Addr):List D->List V->Prop
 | [],vs=>vs=[] | d::ds,vs=>∃ v r,vs=v::r/\Den H Y d v/\zA H Y ds r
end
def uK(H:Hp)(Y:List Addr)(xs:List D)(a:Addr):Prop:=(∃ vs,H a=some (.lst vs)/\zA mg H Y xs vs)\/(∃ kvs,H a=some (.dT kvs)/\zja xs kvs)\/∃ o kvs ys,H a=some (.frz o (.dT kvs))/\xs=.non::ys/\zja ys kvs
structure Rep(H:Hp)(Y:List Addr)(s:Sto):Prop where
 len:Y.length=s.length
 nd:Y.Nodup
 cell:∀ (l:Nat)(xs:List D),s[l]? = some xs->∃ a,Y[l]? = some a/\uK mg H Y xs a
 flat:∀ xs∈s,D.flat.flats xs=true
structure wl(H:Hp)(Y:List Addr)(H':Hp)(Y':List Addr)(s':Sto):Prop where
 rep:Rep mg H' Y' s'
 pre:Y <+: Y'
 keep:∀ b o,H b=some o->b∉Y->H' b=some o
 new:∀ a∈Y',a∉Y->H a=none
 mt:∀ a∈Y,(IsL H a/\IsL H' a)\/(IsC H a/\IsC H' a/\∀ o u,H a=some (.frz o u)->H' a=some (.frz o u))
end
section
variable {mg:Gm}{H H' H1 H2:Hp}{Y Y' Y1 Y2:List Addr}{s s' s1 s2:Sto}
theorem uK.kind{xs:List D}{a:Addr}(h:uK mg H Y xs a):IsL H a\/IsC H a:=h.imp (fun ⟨vs,e,_⟩=>⟨vs,e⟩) fun h=>h.imp (fun ⟨k,e,_⟩=>⟨k,e⟩) fun ⟨o,k,_,e,_⟩=>⟨o,k,e⟩
theorem Rep.mt(r:Rep mg H Y s):∀ a∈Y,IsL H a\/IsC H a:=fun a ha=>by
 obtain ⟨l,hl,e⟩:=_E.mp ha;have hl':l<s.length:=by rw [<- r.len];exact hl
 obtain ⟨b,e1,c⟩:=r.cell l s[l] (_f hl');rw [_f hl] at e1;have:Y[l]=b:=_I e1;rw [<- e,this];exact c.kind
theorem Rep.at_(r:Rep mg H Y s){l:Nat}{xs:List D}{a:Addr}(h:s[l]? = some xs)(ha:Y[l]? = some a)(k:IsL H a):∃ vs,H a=some (.lst vs)/\zA mg H Y xs vs:=by
 obtain ⟨b,e1,c⟩:=r.cell l xs h;rw [ha] at e1;cases e1;rcases c with c | ⟨kvs,e,_⟩ | ⟨o,kvs,_,e,_⟩;·exact c
 ·exact (k.notC (.inl ⟨kvs,e⟩)).elim
 ·exact (k.notC (.inr ⟨o,kvs,e⟩)).elim
theorem wl.refl(r:Rep mg H Y s):wl mg H Y H Y s:=⟨r,_cK _,fun _ _ h _=>h,fun a h1 h2=>absurd h1 h2,fun a ha=>(r.mt a ha).imp (fun h=>⟨h,h⟩) fun h=>⟨h,h,fun _ _ q=>q⟩⟩
theorem wl.trans(a:wl mg H Y H1 Y1 s1)(b:wl mg H1 Y1 H2 Y2 s2):wl mg H Y H2 Y2 s2:=by
 refine ⟨b.rep,a.pre.trans b.pre,fun c o h n=>?_,fun c h1 h2=>?_,fun c hc=>?_⟩
 ·refine b.keep c o (a.keep c o h n) fun z=>?_;rw [a.new c z n] at h;cases h
 ·by_cases h3:c∈Y1;·exact a.new c h3 h2
  ·cases e:H c with
   | none=>rfl | some o=>rw [<- b.new c h1 h3,a.keep c o e h2]
 ·have hc1:c∈Y1:=a.pre.subset hc;rcases a.mt c hc with ⟨k1,k2⟩ | ⟨k1,k2,k3⟩
  ·rcases b.mt c hc1 with ⟨_,q⟩ | ⟨q,_,_⟩;·exact .inl ⟨k1,q⟩
   ·exact (k2.notC q).elim
  ·rcases b.mt c hc1 with ⟨q,_⟩ | ⟨_,q,q3⟩;·exact (q.notC k2).elim
   ·exact .inr ⟨k1,q,fun o u z=>q3 o u (k3 o u z)⟩
theorem wl.stay(stp:wl mg H Y H' Y' s'){b:Addr}{o:HO}(h:H b=some o)(hn:∀ vs,o≠.lst vs)(hn2:∀ kvs,o≠.dT kvs:=by intro vs z;cases z):H' b=some o:=by
 by_cases hb:b∈Y
 ·rcases stp.mt b hb with ⟨⟨vs,e⟩,_⟩ | ⟨⟨vs,e⟩ | ⟨p,vs,e⟩,_,q⟩
  ·rw [h] at e;exact absurd (_I e) (hn vs)
  ·rw [h] at e;exact absurd (_I e) (hn2 vs)
  ·rw [h] at e;cases e;exact q _ _ h
 ·exact stp.keep b o h hb
mutual
theorem Den.mono(stp:wl mg H Y H' Y' s'):∀ {d:D}{v:V},Den mg H Y d v->Den mg H' Y' d v
 | .non,_,h=>by simpa [Den] using h | .bl _,_,h=>by simpa [Den] using h | .int _,_,h=>by simpa [Den] using h | .str _,_,h=>by simpa [Den] using h | .tup ds,v,h=>by
  simp only [Den] at h ⊢;obtain ⟨a,vs,e,h1,h2⟩:=h;exact ⟨a,vs,e,stp.stay h1 (by intro vs z;cases z),zA.mono stp h2⟩ | .lst ds,v,h=>by
  simp only [Den] at h ⊢;obtain ⟨a,o,vs,e,h1,h2⟩:=h;exact ⟨a,o,vs,e,stp.stay h1 (by intro vs z;cases z),zA.mono stp h2⟩ | .dct,v,h=>by
  simp only [Den] at h ⊢;obtain ⟨a,e,h1⟩:=h;exact ⟨a,e,stp.stay h1 (by intro vs z;cases z)⟩ | .loc l,v,h=>by
  simp only [Den] at h ⊢;obtain ⟨a,e,h1,k⟩:=h;obtain ⟨t,ht⟩:=stp.pre;refine ⟨a,e,?_,?_⟩
  ·rw [<- ht,_v (_c.mp h1).1];exact h1
  ·rcases stp.mt a (_y h1) with ⟨_,q⟩ | ⟨q,_,_⟩;·exact q
   ·exact (k.notC q).elim | .dlo l,v,h=>by
  simp only [Den] at h ⊢;obtain ⟨a,e,h1,k⟩:=h;obtain ⟨t,ht⟩:=stp.pre;refine ⟨a,e,?_,?_⟩
  ·rw [<- ht,_v (_c.mp h1).1];exact h1
  ·rcases stp.mt a (_y h1) with ⟨q,_⟩ | ⟨_,q,_⟩;·exact (q.notC k).elim
   ·exact q | .fn _,_,h=>by simpa [Den] using h | .exc x,v,h=>by
  simp only [Den] at h ⊢;obtain ⟨a,C,e,h1,h2⟩:=h;exact ⟨a,C,e,h1,stp.stay h2 (by intro vs z;cases z)⟩ | .scr ds,v,h=>by
  simp only [Den] at h ⊢;obtain ⟨a,vs,e,h1,h2⟩:=h;exact ⟨a,vs,e,h1.imp (fun ⟨o,h1⟩=>⟨o,stp.stay h1 (by intro vs z;cases z)⟩) id,zA.mono stp h2⟩
theorem zA.mono(stp:wl mg H Y H' Y' s'):∀ {ds:List D}{vs:List V},zA mg H Y ds vs->zA mg H' Y' ds vs
 | [],_,h=>by simpa [zA] using h | d::ds,vs,h=>by
  simp only [zA] at h ⊢;obtain ⟨v,r,e,h1,h2⟩:=h;exact ⟨v,r,e,Den.mono stp h1,zA.mono stp h2⟩
end
theorem zA.length:∀ {ds:List D}{vs:List V},zA mg H Y ds vs->vs.length=ds.length
 | [],_,h=>by simp only [zA] at h;rw [h];rfl | d::ds,vs,h=>by
  simp only [zA] at h;obtain ⟨v,r,rfl,_,h2⟩:=h;simp [zA.length h2]
theorem zA.get:∀ {ds:List D}{vs:List V}{i:Nat}{d:D},zA mg H Y ds vs->ds[i]? = some d->∃ v,vs[i]? = some v/\Den mg H Y d v
 | [],_,_,_,_,e=>by simp at e | d::ds,vs,0,d',h,e=>by
  simp only [zA] at h;obtain ⟨v,r,rfl,h1,_⟩:=h;simp at e;subst e;exact ⟨v,by simp,h1⟩ | d::ds,vs,i+1,d',h,e=>by
  simp only [zA] at h;obtain ⟨v,r,rfl,_,h2⟩:=h;obtain ⟨u,h3,h4⟩:=zA.get (i:=i) h2 (by simpa using e);exact ⟨u,by simpa using h3,h4⟩
theorem zA.append:∀ {ds es:List D}{vs us:List V},zA mg H Y ds vs->zA mg H Y es us->zA mg H Y (ds++es) (vs++us)
 | [],_,_,_,h,h'=>by simp only [zA] at h;subst h;simpa using h' | d::ds,_,_,_,h,h'=>by
  simp only [zA] at h;obtain ⟨v,r,rfl,h1,h2⟩:=h;simp only [List.cons_append,zA];exact ⟨v,_,rfl,h1,zA.append h2 h'⟩
theorem zA.nil:zA mg H Y [] []:=by simp [zA]
theorem zA.cons {d:D} {ds:List D} {v:V} {vs:List V} (h:Den mg H Y d v) (h':zA mg H Y ds vs):zA mg H Y (d::ds) (v::vs):=by
 simp only [zA];exact ⟨v,vs,rfl,h,h'⟩
theorem zA.one{d:D}{v:V}(h:Den mg H Y d v):zA mg H Y [d] [v]:=.cons h .nil
theorem zA.take:∀ {ds:List D}{vs:List V}(n:Nat),zA mg H Y ds vs->zA mg H Y (ds.take n) (vs.take n)
 | ds,vs,0,h=>by simp [zA] | [],vs,n+1,h=>by simp only [zA] at h;subst h;simp [zA] | d::ds,vs,n+1,h=>by
  simp only [zA] at h;obtain ⟨v,r,rfl,h1,h2⟩:=h;simp only [List.take_succ_cons];exact .cons h1 (zA.take n h2)
theorem zA.drop:∀ {ds:List D}{vs:List V}(n:Nat),zA mg H Y ds vs->zA mg H Y (ds.drop n) (vs.drop n)
 | ds,vs,0,h=>by simpa using h | [],vs,n+1,h=>by simp only [zA] at h;subst h;simp [zA] | d::ds,vs,n+1,h=>by
  simp only [zA] at h;obtain ⟨v,r,rfl,h1,h2⟩:=h;simpa using zA.drop n h2
theorem zA.set:∀ {ds:List D}{vs:List V}{d:D}{v:V}(n:Nat),zA mg H Y ds vs->Den mg H Y d v->zA mg H Y (ds.set n d) (vs.set n v)
 | [],vs,_,_,n,h,_=>by simp only [zA] at h;subst h;simp [zA] | d::ds,vs,_,_,0,h,h'=>by
  simp only [zA] at h;obtain ⟨v,r,rfl,h1,h2⟩:=h;simpa using zA.cons h' h2 | d::ds,vs,_,_,n+1,h,h'=>by
  simp only [zA] at h;obtain ⟨v,r,rfl,h1,h2⟩:=h;simpa using zA.cons h1 (zA.set n h2 h')
mutual
theorem Den.flatten(k:∀ b o,H b=some o->(∀ vs,o≠.lst vs)->(∀ kvs,o≠.dT kvs)->H' b=some o):∀ {d:D}{v:V},d.flat=true->Den mg H Y d v->Den mg H' Y' d v
 | .non,_,_,h=>by simpa [Den] using h | .bl _,_,_,h=>by simpa [Den] using h | .int _,_,_,h=>by simpa [Den] using h | .str _,_,_,h=>by simpa [Den] using h | .tup ds,v,f,h=>by
  simp only [Den] at h ⊢;obtain ⟨a,vs,e,h1,h2⟩:=h;exact ⟨a,vs,e,k a _ h1 (by intro vs z;cases z) (by intro vs z;cases z),zA.flatten k (by simpa [D.flat] using f) h2⟩ | .lst ds,v,f,h=>by
  simp only [Den] at h ⊢;obtain ⟨a,o,vs,e,h1,h2⟩:=h;exact ⟨a,o,vs,e,k a _ h1 (by intro vs z;cases z) (by intro vs z;cases z),zA.flatten k (by simpa [D.flat] using f) h2⟩ | .dct,v,_,h=>by
  simp only [Den] at h ⊢;obtain ⟨a,e,h1⟩:=h;exact ⟨a,e,k a _ h1 (by intro vs z;cases z) (by intro vs z;cases z)⟩ | .loc l,v,f,h=>by simp [D.flat] at f | .dlo l,v,f,h=>by simp [D.flat] at f | .fn _,_,_,h=>by simpa [Den] using h | .exc x,v,_,h=>by
  simp only [Den] at h ⊢;obtain ⟨a,C,e,h1,h2⟩:=h;exact ⟨a,C,e,h1,k a _ h2 (by intro vs z;cases z) (by intro vs z;cases z)⟩ | .scr ds,v,f,h=>by
  simp only [Den] at h ⊢;obtain ⟨a,vs,e,h1,h2⟩:=h;exact ⟨a,vs,e,h1.imp (fun ⟨o,h1⟩=>⟨o,k a _ h1 (by intro vs z;cases z) (by intro vs z;cases z)⟩) id,zA.flatten k (by simpa [D.flat] using f) h2⟩
theorem zA.flatten(k:∀ b o,H b=some o->(∀ vs,o≠.lst vs)->(∀ kvs,o≠.dT kvs)->H' b=some o):∀ {ds:List D}{vs:List V},D.flat.flats ds=true->zA mg H Y ds vs->zA mg H' Y' ds vs
 | [],_,_,h=>by simpa [zA] using h | d::ds,vs,f,h=>by
  simp only [zA] at h ⊢;simp only [D.flat.flats,_D] at f;obtain ⟨v,r,e,h1,h2⟩:=h;exact ⟨v,r,e,Den.flatten k f.1 h1,zA.flatten k f.2 h2⟩
end
end
def okR{α β:Type}(mg:Gm)(E:XK)(H:Hp)(Y:List Addr)(Dn:Hp->List Addr->α->β->Prop)(r:R α)(Q:β->Hp->Prop):Prop:=match r with
 | .ok a s'=>∀ b H' Y',wl mg H Y H' Y' s'->Dn H' Y' a b->Q b H' | .ex c s'=>∀ H' Y' C,wl mg H Y H' Y' s'->mg.m c=some (.ref C)->E (.ref C) none H' | .no=>False
section
variable {α β α2 β2:Type}{mg:Gm}{E:XK}{H H' H1 H2:Hp}{Y Y' Y1 Y2:List Addr}{s s' s1 s2:Sto}{Dn:Hp->List Addr->α->β->Prop}{Dn2:Hp->List Addr->α2->β2->Prop}
theorem okR.rebase{r:R α}{Q:β->Hp->Prop}(h:okR mg E H Y Dn r Q)(stp:wl mg H Y H1 Y1 s1):okR mg E H1 Y1 Dn r Q:=by cases r with
 | ok a s'=>exact fun b H' Y' stp'=>h b H' Y' (stp.trans stp') | ex c s'=>exact fun H' Y' C stp'=>h H' Y' C (stp.trans stp') | no=>exact h
theorem okR.bind{r:R α}{k:α->Sto->R α2}{Q:β2->Hp->Prop}(h:okR mg E H Y Dn2 (r.bind k) Q): okR mg E H Y Dn r (fun b H1=>∃ Y1 s1 a,wl mg H Y H1 Y1 s1/\Dn H1 Y1 a b/\okR mg E H1 Y1 Dn2 (k a s1) Q):=by cases r with
 | ok a s'=>exact fun b H' Y' stp dn=>⟨Y',s',a,stp,dn,okR.rebase h stp⟩ | ex c s'=>exact h | no=>exact h
theorem okR.imp{r:R α}{Q Q':β->Hp->Prop}(h:okR mg E H Y Dn r Q)(i:∀ b H',Q b H'->Q' b H'):okR mg E H Y Dn r Q':=by cases r with
 | ok a s'=>exact fun b H' Y' stp dn=>i b H' (h b H' Y' stp dn) | ex c s'=>exact h | no=>exact h
theorem okR.here{a:α}{Q:β->Hp->Prop}{b:β}(h:okR mg E H Y Dn (.ok a s) Q)(r:Rep mg H Y s)(d:Dn H Y a b):Q b H:=h b H Y (.refl r) d
end
structure ux(mg:Gm)(H:Hp)(Y:List Addr)(Z:Ev)(O:L2.St):Prop where
 len:Z.length=O.length
 at_:∀ (i:Nat)(d:D),Z[i]? = some (some d)->∃ v,O[i]? = some (some v)/\Den mg H Y d v
theorem ux.mono{mg:Gm}{H H':Hp}{Y Y':List Addr}{s':Sto}{Z:Ev}{O:L2.St}(e:ux mg H Y Z O)(stp:wl mg H Y H' Y' s'):ux mg H' Y' Z O:= ⟨e.len,fun i d h=>let ⟨v,h1,h2⟩:=e.at_ i d h;⟨v,h1,h2.mono stp⟩⟩
theorem ux.set{mg:Gm}{H:Hp}{Y:List Addr}{Z:Ev}{O:L2.St}{d:D}{v:V}(e:ux mg H Y Z O)(h:Den mg H Y d v)(i:Nat):ux mg H Y (Z.set i (some d)) (O.set i (some v)):=by
 refine ⟨by simp [e.len],fun j d' hj=>?_⟩;by_cases hij:i=j
 ·subst hij;have hi:i<Z.length:=by
   have:=(_c.mp hj).1;simpa using this
  rw [_P hi] at hj;cases hj;exact ⟨v,by rw [_P (by rw [<- e.len];exact hi)],h⟩
 ·rw [_K hij] at hj ⊢;exact e.at_ j d' hj
abbrev FE:=Ev->Sto->R D
abbrev FT:=Ev->Sto->R Bool
abbrev FA:=Ev->Sto->R (List D)
inductive Fl where | nx (Z:Ev) | rt (d:D) | bk (Z:Ev) | ct (Z:Ev)
inductive FlV where | nx (O:L2.St) | rt (v:V) | bk (O:L2.St) | ct (O:L2.St)
abbrev FS:=Ev->Sto->R Fl
def FlD(mg:Gm)(H:Hp)(Y:List Addr):Fl->FlV->Prop
 | .nx Z,.nx O=>ux mg H Y Z O | .rt d,.rt v=>Den mg H Y d v | .bk Z,.bk O=>ux mg H Y Z O | .ct Z,.ct O=>ux mg H Y Z O | _,_=>False
def z2T(D:zeG):FlV->Hp->Prop
 | .nx O,H=>D.nx O H | .rt v,H=>D.rt v H | .bk O,H=>D.bk O H | .ct O,H=>D.ct O H
def bD(_:Hp)(_:List Addr)(a b:Bool):Prop:=a=b
def tE(mg:Gm)(E:XK)(f:FE):TE:=fun O H Q=>∃ Y Z s,Rep mg H Y s/\ux mg H Y Z O/\okR mg E H Y (Den mg) (f Z s) Q
def tT(mg:Gm)(E:XK)(f:FT):TT:=fun O H Q=>∃ Y Z s,Rep mg H Y s/\ux mg H Y Z O/\okR mg E H Y bD (f Z s) Q
def tA(mg:Gm)(E:XK)(f:FA):TA:=fun O H Q=>∃ Y Z s,Rep mg H Y s/\ux mg H Y Z O/\okR mg E H Y (zA mg) (f Z s) Q
def tS(mg:Gm)(E:XK)(f:FS):TS:=fun D O H=>∃ Y Z s,Rep mg H Y s/\ux mg H Y Z O/\okR mg E H Y (FlD mg) (f Z s) (z2T D)
def RE(X:Cx)(E:XK)(e:Expr)(f:FE):Prop:=PE X e (tE (gm X) E f)
def RT(X:Cx)(E:XK)(e:Expr)(f:FT):Prop:=PT X e (tT (gm X) E f)
def RA(X:Cx)(E:XK)(es:List Expr)(f:FA):Prop:=PA X es (tA (gm X) E f)
def RS(X:Cx)(E:XK)(st:Stmt)(f:FS):Prop:=PS X st (tS (gm X) E f)
def RSs(X:Cx)(E:XK)(st:List Stmt)(f:FS):Prop:=PSs X st (tS (gm X) E f)
section
variable {X:Cx}{E:XK}{e a b c:Expr}{es:List Expr}{pos:Pos}
theorem zN{t t':TE}(h:PE X e t)(i:∀ O H Q,t' O H Q->t O H Q):PE X e t':=fun pins s O H Q I q=>h pins s O H Q I (i O H Q q)
theorem zaU{t t':TT}(h:PT X e t)(i:∀ O H Q,t' O H Q->t O H Q):PT X e t':=fun pins s O H Q I q=>h pins s O H Q I (i O H Q q)
theorem zd8{t t':TA}(h:PA X es t)(i:∀ O H Q,t' O H Q->t O H Q):PA X es t':=fun pos pins s O H Q I q=>h pos pins s O H Q I (i O H Q q)
theorem vQ{st:Stmt}{t t':TS}(h:PS X st t)(i:∀ D O H,t' D O H->t D O H):PS X st t':=fun pins s O H D I q=>h pins s O H D I (i D O H q)
theorem zav{st:List Stmt}{t t':TS}(h:PSs X st t)(i:∀ D O H,t' D O H->t D O H):PSs X st t':=fun pins s O H D I q=>h pins s O H D I (i D O H q)
theorem ya{α β:Type}{Dn:Hp->List Addr->α->β->Prop}{mg:Gm}{f:FE}{k:Ev->D->Sto->R α}{O:L2.St}{H:Hp}{Q:β->Hp->Prop}{Y:List Addr}{Z:Ev}{s:Sto}(r:Rep mg H Y s)(en:ux mg H Y Z O) (h:okR mg E H Y Dn ((f Z s).bind (k Z)) Q)(K:V->Hp->Prop) (hK:∀ v H1 Y1 s1 d,Rep mg H1 Y1 s1->ux mg H1 Y1 Z O->Den mg H1 Y1 d v->wl mg H Y H1 Y1 s1->okR mg E H1 Y1 Dn (k Z d s1) Q->K v H1):tE mg E f O H K:= ⟨Y,Z,s,r,en,(okR.bind (Dn:=Den mg) h).imp fun v H1 ⟨Y1,s1,d,stp,dn,q⟩=>hK v H1 Y1 s1 d stp.rep (en.mono stp) dn stp q⟩
theorem z1V{α β:Type}{Dn:Hp->List Addr->α->β->Prop}{mg:Gm}{f:FT}{k:Ev->Bool->Sto->R α}{O:L2.St}{H:Hp}{Q:β->Hp->Prop}{Y:List Addr}{Z:Ev}{s:Sto}(r:Rep mg H Y s)(en:ux mg H Y Z O) (h:okR mg E H Y Dn ((f Z s).bind (k Z)) Q)(K:Bool->Hp->Prop) (hK:∀ v H1 Y1 s1,Rep mg H1 Y1 s1->ux mg H1 Y1 Z O->wl mg H Y H1 Y1 s1->okR mg E H1 Y1 Dn (k Z v s1) Q->K v H1):tT mg E f O H K:= ⟨Y,Z,s,r,en,(okR.bind (Dn:=bD) h).imp fun v H1 ⟨Y1,s1,d,stp,dn,q⟩=>hK v H1 Y1 s1 stp.rep (en.mono stp) stp (by cases (show d=v from dn);exact q)⟩
theorem um{α β:Type}{Dn:Hp->List Addr->α->β->Prop}{mg:Gm}{f:FA}{k:Ev->List D->Sto->R α}{O:L2.St}{H:Hp}{Q:β->Hp->Prop}{Y:List Addr}{Z:Ev}{s:Sto}(r:Rep mg H Y s)(en:ux mg H Y Z O) (h:okR mg E H Y Dn ((f Z s).bind (k Z)) Q)(K:List V->Hp->Prop) (hK:∀ v H1 Y1 s1 d,Rep mg H1 Y1 s1->ux mg H1 Y1 Z O->zA mg H1 Y1 d v->wl mg H Y H1 Y1 s1->okR mg E H1 Y1 Dn (k Z d s1) Q->K v H1):tA mg E f O H K:= ⟨Y,Z,s,r,en,(okR.bind (Dn:=zA mg) h).imp fun v H1 ⟨Y1,s1,d,stp,dn,q⟩=>hK v H1 Y1 s1 d stp.rep (en.mono stp) dn stp q⟩
def zc(i:Nat):FE:=fun Z s=>match Z[i]? with | some (some d)=>.ok d s | _=>.no
theorem zb(i:Nat){x:Str}(hN:X.N[i]? = some x:=by rfl)(hv:Vis X.env.scope x:=by first | exact Or.inl rfl | exact Or.inr (Or.inl rfl) | exact Or.inr (Or.inr rfl))(hd:(x==("__debug__":Str))=false:=by decide) (hcd:(x==("__classdict__":Str))=false:=by decide):RE X E (.Name x pos) (zc i):= zN (zdh hN hv hd hcd) fun O H Q ⟨Y,Z,s,r,en,h⟩=>by
  unfold zc at h;split at h
  ·rename_i d hd;obtain ⟨v,h1,h2⟩:=en.at_ i d hd;exact ⟨v,h1,h.here r h2⟩
  ·exact h.elim
def eC(d:D):FE:=fun _ s=>.ok d s
theorem zj{i:Int}{j:Nat}:RE X E (.Constant (.int i) j pos) (eC (.int i)):=zN zb1 fun O H Q ⟨Y,Z,s,r,en,h⟩=>okR.here (b:=V.int i) h r (by simp [Den])
theorem z63{i:Bool}{j:Nat}:RE X E (.Constant (.bool i) j pos) (eC (.bl i)):=zN ziF fun O H Q ⟨Y,Z,s,r,en,h⟩=>okR.here (b:=V.bl i) h r (by simp [Den])
theorem zcz{j:Nat}:RE X E (.Constant .none j pos) (eC .non):=zN zgQ fun O H Q ⟨Y,Z,s,r,en,h⟩=>okR.here (b:=V.non) h r (by simp [Den])
theorem yP{i:Str}{j:Nat}:RE X E (.Constant (.str i) j pos) (eC (.str i)):=zN zdl fun O H Q ⟨Y,Z,s,r,en,h⟩=>okR.here (b:=V.str i) h r (by simp [Den])
theorem zgR{x:Str}{i:Int}{t:Tok}(hg:Gl X x)(hm:X.mg x=some (.int i t))(hd:(x==("__debug__":Str))=false:=by decide):RE X E (.Name x pos) (eC (.int i)):= zN (z28 hg hm (show xK (.int i) (.int i t) from ⟨t,rfl⟩) hd) fun O H Q ⟨Y,Z,s,r,en,h⟩=>okR.here (b:=V.int i) h r (by simp [Den])
def OpF(X:Cx)(E:XK)(r:R2)(op:D->D->Sto->R D):Prop:= ∀ H Y s d1 d2 v1 v2 (Q:VK),Rep (gm X) H Y s->Den (gm X) H Y d1 v1->Den (gm X) H Y d2 v2->okR (gm X) E H Y (Den (gm X)) (op d1 d2 s) Q->r v1 v2 H Q
def eOp(op:D->D->Sto->R D)(fa fb:FE):FE:=fun Z s=>(fa Z s).bind fun x s1=>(fb Z s1).bind fun y s2=>op x y s2
theorem z8c{r:R2}{op:D->D->Sto->R D}{fa fb:FE}(ho:OpF X E r op){O:L2.St}{H:Hp}{Q:VK}(h:tE (gm X) E (eOp op fa fb) O H Q):tOp r (tE (gm X) E fa) (tE (gm X) E fb) O H Q:=by
 obtain ⟨Y,Z,s,r',en,h⟩:=h;refine ya (k:=fun Z x s1=>(fb Z s1).bind fun y s2=>op x y s2) r' en h _ fun v H1 Y1 s1 d r1 en1 dn stp h1=>?_;refine ya (k:=fun Z y s2=>op d y s2) r1 en1 h1 _ fun v2 H2 Y2 s2 d2 r2 en2 dn2 St2 h2=>?_;exact ho H2 Y2 s2 d d2 v v2 Q r2 (dn.mono St2) dn2 h2
theorem zjV{op:Operator}{r:R2}{fo:D->D->Sto->R D}{fa fb:FE}(ho:OpR X (binaryOp op) r/\OpF X E r fo)(ha:RE X E a fa)(hb:RE X E b fb):RE X E (.BinOp a op b pos) (eOp fo fa fb):= zN (zhR ho.1 ha hb) fun O H Q h=>z8c ho.2 h
theorem zhS{op:CmpOp}{r:R2}{fo:D->D->Sto->R D}{fa fb:FE}(ho:OpR X (compareOp op) r/\OpF X E r fo)(ha:RE X E a fa)(hb:RE X E b fb)(hm:behindInMarks op b=false):RE X E (.Compare a [op] [b] pos) (eOp fo fa fb):= zN (zaO ho.1 ha hb hm) fun O H Q h=>z8c ho.2 h
end
end Dd
namespace L2
theorem Inv.freeze {X:Cx} {pins:List (Addr×Obj)} {O:L2.St} {H:Hp} {s:Shared} {a:Addr} {u:HO} {o:Obj} (I:Inv X pins O H s) (h:H a=some u) (e:s.heap.get? a=some o) (hu:∀ xs,u≠.tup xs) (hf:∀ o v,u≠.frz o v) (ht:∀ ps,u≠.tbl ps) (ho:∀ y,u≠.own y): Inv X pins O (upd H a (.frz o u)) s:=by
 have ne:∀ {b:Addr} {v:HO},H b=some v->v≠u->b≠a:=fun {b v} hb hv z=>by subst z;rw [h] at hb;exact hv (_I hb).symm
 have stay:∀ b v,xn X.prog X.w H s.heap b v->xn X.prog X.w (upd H a (.frz o u)) s.heap b v:=fun b v q=> q.stay (fun _ _ _ q=>q) (fun c q=>by rw [zE (ne q (fun z=>ho b z.symm))];exact q) fun c xs q=>by rw [zE (ne q (fun z=>hu xs z.symm))];exact q
 have hok:HOk X.prog X.w (upd H a (.frz o u)) s.heap:=fun b v q=>by
  by_cases hb:b=a
  ·subst hb;rw [yn] at q;cases q;exact ⟨e,stay b u (I.hok b u h)⟩
  ·rw [zE hb] at q;exact stay b v (I.hok b v q)
 exact I.step (h':=s.heap) (g':=s.gens) (d':=s.drawn) (t':=s.toks) (ch:=[]) (fun b hb=>absurd hb (by simp)) (fun b o _ _ _ e _=>e) (fun b o _ _ _ e _=>⟨o.slots,e⟩) (fun b v _ _ n=>by rw [zE (fun z=>by subst z;rw [h] at n;cases n)];exact n) (fun b o _ e=>⟨o,e⟩) (fun b xs q=>by rw [zE (ne q (fun z=>hu xs z.symm))];exact q) (fun b o' v q=>by rw [zE (ne q (fun z=>hf o' v z.symm))];exact q) (fun b ps q=>⟨#[],by rw [zE (ne q (fun z=>ht ps z.symm)),q];simp⟩) (fun _ q=>q) hok I.bare
def zbh(Q:VK):VK:=fun v H=>∃ a xs,v=.ref a/\H a=some (.lst xs)/\∀ o,Q v (upd H a (.frz o (.lst xs)))
theorem EP.freeze{X:Cx}{pins:List (Addr×Obj)}{O:L2.St}{Q:VK}{u:Value}{s:Shared}(h:EP X pins O (zbh Q) u s):EP X pins O Q u s:=by
 obtain ⟨v,H',I,r,a,xs,rfl,ha,q⟩:=h;obtain ⟨its,n,rv,e,_⟩:=I.lst ha;exact ⟨_,_,I.freeze ha e (by intro _ z;cases z) (by intro _ _ z;cases z) (by intro _ z;cases z) (by intro _ z;cases z),r,q _⟩
theorem OpR.freeze{X:Cx}{f:Value->Value->Sem Value}{r:R2}(h:OpR X f r):OpR X f (fun x y H Q=>r x y H (zbh Q)):=fun pins s O H x y v u Q I rx ry q=>thn (h pins s O H x y v u _ I rx ry q) fun _ _ z=>z.freeze
theorem xD.freeze{X:Cx}{f:Value}{r:List V->Hp->VK->Prop}(h:xD X f r):xD X f (fun xs H Q=>r xs H (zbh Q)):=fun pins s O H xs us Q I rs q=>thn (h pins s O H xs us _ I rs q) fun _ _ z=>z.freeze
theorem PE.freeze{X:Cx}{e:Expr}{t:TE}(h:PE X e t):PE X e (fun O H Q=>t O H (zbh Q)):=fun pins s O H Q I q=>thn (h pins s O H _ I q) fun _ _ z=>z.freeze
theorem SlR.freeze{X:Cx}{r:V->Option Int->Option Int->Hp->VK->Prop}(h:SlR X r):SlR X (fun x lo hi H Q=>r x lo hi H (zbh Q)):=fun pins s O H x v vl vu lo hi sl Q I rx hs pl pu q=>by
 obtain ⟨T,id,h1,h2,h3⟩:=h pins s O H x v vl vu lo hi sl _ I rx hs pl pu q;exact ⟨T,id,h1,h2,thn h3 fun _ _ z=>z.freeze⟩
section
variable {X:Cx}
theorem zdK:OpR X (binaryOp .Add) (fun x y H Q=>∃ l b xs zs,x=.ref l/\y=.ref b/\Rd H l (.lst xs)/\Rd H b (.lst zs)/\xs.length+zs.length<=sizeLine/\∀ p,H p=none->Q (.ref p) (upd H p (.lst (xs++zs)))):=by
 intro pins s O H x y v u Q I rx ry h;obtain ⟨l,b,xs,zs,rfl,rfl,hH,hB,hz,q⟩:=h;cases rx;cases ry;obtain ⟨z,its,n,r,e⟩:=hH.ok I.hok;obtain ⟨z2,its2,n2,r2,e2⟩:=hB.ok I.hok;have hl:=r.length;have hl2:=r2.length;refine PySem.P.add_list e e2 ?_ (by rw [_k,_k];omega);have ea:its.toArray++its2.toArray=(its++its2).toArray:=by simp
 rw [ea];exact ⟨.ref _,_,I.lnew (t':=s.toks) (r.append r2) (by rw [_aK];omega),rfl,q _ I.fresh⟩
end
section
variable {X:Cx}
theorem zcg:OpR X (binaryOp .Add) (fun x y H Q=>∃ a b ys,x=.ref a/\y=.ref b/\SqT X.K H a []/\SqT X.K H b ys/\Q (.ref b) H):=by
 intro pins s O H x y v u Q I rx ry h;obtain ⟨a,b,ys,rfl,rfl,ha,hb,q⟩:=h;cases rx;cases ry;obtain ⟨its,r1,p1,_⟩:=I.tuple ha;obtain ⟨its2,r2,p2,_⟩:=I.tuple hb;cases r1;obtain ⟨⟨cls,dd,data,sl⟩,ho,hc,n,hd⟩:=id p1;obtain ⟨⟨cls2,dd2,data2,sl2⟩,ho2,hc2,n2,hd2⟩:=id p2;simp only at hc hd hc2 hd2;subst hc hd hc2 hd2;exact concat_meets ⟨_,ho,rfl⟩ ⟨_,ho2,rfl⟩ _cG seq_tuple_add _bB _bw (_bp _ _) (tuple_addW0 a b _ _ n n2 dd dd2 sl sl2 (by simp)) ⟨ho,ho2,⟨.ref b,H,I,rfl,q⟩⟩
theorem zfm:SlR X (fun x lo hi H Q=>∃ a xs,x=.ref a/\SqT X.K H a xs/\(HT.sIx xs.length 0 lo=0/\HT.sIx xs.length xs.length hi=xs.length)/\Q (.ref a) H):=by
 intro pins s O H x v vl vu lo hi sl Q I rx hs pl pu h;obtain ⟨a,xs,rfl,hx,hw,q⟩:=h;cases rx;obtain ⟨its,r,ht,hz⟩:=I.tuple hx;have hlen:its.toArray.size=xs.length:=by rw [_k];exact r.length.symm
 refine ⟨"tuple",_,_B.lookup,ht.typeIs,?_⟩;obtain ⟨os,hos,hcs,hds⟩:=id hs;have hTs:s.TypeIs (.ref sl) "slice":=⟨os,hos,hcs⟩;obtain ⟨oa,hoa,hca,na,hda⟩:=id ht;unfold getItem;try with_reducible refine _at ?_
 first | refine _a (_g ?_) | skip
 refine _a (_cr ht.typeIs (by decide) ?_);refine _a (_O (name:=Str.ofString "__getitem__") ht.typeIs _B (_U _B ht.typeIs _b1 ?_ (_cf _ _)));show wpAny _ _ (Builtin.Tuple.tupleItemsOf (.ref a) >>= _) _ _ s;refine _a (tupleItemsOf_ ht ?_);refine _a (_b4 hTs ?_);rw [_d (by decide)];refine _a (HT.qK hs pl pu ?_);rw [hlen,hw.1,hw.2];show wpAny _ _ (if (((0:Nat):Int)==0&&(1:Int)==1&&(xs.length-0)==xs.length)=true then _ else _) _ _ s;rw [_d (by simp)];have hTa:s.TypeIs (.ref a) "tuple":=ht.typeIs;have fin:EP X pins O Q (.ref a) s:=⟨.ref a,H,I,rfl,q⟩;unfold Builtin.Tuple.tupleIsExact;refine _a (_a (_b4 hTa (_g ?_)));rw [_d (by decide)];exact _a (_cb (_g ⟨_,rfl,_g fin⟩))
end
end L2
namespace Dd
open L2
section
variable {mg:Gm}{H H' H1 H2:Hp}{Y Y' Y1 Y2:List Addr}{s s' s1 s2:Sto}
structure Kp(H H':Hp):Prop where
 k:∀ b o,H b=some o->(∀ vs,o≠.lst vs)->(∀ kvs,o≠.dT kvs)->H' b=some o
 l:∀ a,IsL H a->IsL H' a
 c:∀ a,IsC H a->IsC H' a
mutual
theorem Den.gen(k:Kp H H')(hi:∀ (l:Nat) a,Y[l]? = some a->Y'[l]? = some a):∀ {d:D}{v:V},Den mg H Y d v->Den mg H' Y' d v
 | .non,_,h=>by simpa [Den] using h | .bl _,_,h=>by simpa [Den] using h | .int _,_,h=>by simpa [Den] using h | .str _,_,h=>by simpa [Den] using h | .tup ds,v,h=>by
  simp only [Den] at h ⊢;obtain ⟨a,vs,e,h1,h2⟩:=h;exact ⟨a,vs,e,k.k a _ h1 (by intro vs z;cases z) (by intro vs z;cases z),zA.gen k hi h2⟩ | .lst ds,v,h=>by
  simp only [Den] at h ⊢;obtain ⟨a,o,vs,e,h1,h2⟩:=h;exact ⟨a,o,vs,e,k.k a _ h1 (by intro vs z;cases z) (by intro vs z;cases z),zA.gen k hi h2⟩ | .dct,v,h=>by
  simp only [Den] at h ⊢;obtain ⟨a,e,h1⟩:=h;exact ⟨a,e,k.k a _ h1 (by intro vs z;cases z) (by intro vs z;cases z)⟩ | .loc l,v,h=>by
  simp only [Den] at h ⊢;obtain ⟨a,e,h1,q⟩:=h;exact ⟨a,e,hi l a h1,k.l a q⟩ | .dlo l,v,h=>by
  simp only [Den] at h ⊢;obtain ⟨a,e,h1,q⟩:=h;exact ⟨a,e,hi l a h1,k.c a q⟩ | .fn _,_,h=>by simpa [Den] using h | .exc x,v,h=>by
  simp only [Den] at h ⊢;obtain ⟨a,C,e,h1,h2⟩:=h;exact ⟨a,C,e,h1,k.k a _ h2 (by intro vs z;cases z) (by intro vs z;cases z)⟩ | .scr ds,v,h=>by
  simp only [Den] at h ⊢;obtain ⟨a,vs,e,h1,h2⟩:=h;exact ⟨a,vs,e,h1.imp (fun ⟨o,h1⟩=>⟨o,k.k a _ h1 (by intro vs z;cases z) (by intro vs z;cases z)⟩) id,zA.gen k hi h2⟩
theorem zA.gen(k:Kp H H')(hi:∀ (l:Nat) a,Y[l]? = some a->Y'[l]? = some a):∀ {ds:List D}{vs:List V},zA mg H Y ds vs->zA mg H' Y' ds vs
 | [],_,h=>by simpa [zA] using h | d::ds,vs,h=>by
  simp only [zA] at h ⊢;obtain ⟨v,r,e,h1,h2⟩:=h;exact ⟨v,r,e,Den.gen k hi h1,zA.gen k hi h2⟩
end
theorem jl{p:Addr}{o:HO}(hp:H p=none):∀ b u,H b=some u->upd H p o b=some u:=fun b u h=>by rw [zE (yE h hp)];exact h
theorem Kp.new{p:Addr}{o:HO}(hp:H p=none):Kp H (upd H p o):=⟨fun b u h _ _=>jl hp b u h,fun a ⟨vs,e⟩=>⟨vs,jl hp a _ e⟩,fun a h=>h.imp (fun ⟨vs,e⟩=>⟨vs,jl hp a _ e⟩) fun ⟨o,vs,e⟩=>⟨o,vs,jl hp a _ e⟩⟩
theorem Kp.putL{a:Addr}{vs:List V}(h:IsL H a):Kp H (upd H a (.lst vs)):=by
 obtain ⟨ws,e⟩:=h;have ne:∀ {b u},H b=some u->(∀ vs,u≠.lst vs)->b≠a:=fun {b u} q n z=>by subst z;rw [e] at q;exact n ws (_I q).symm
 refine ⟨fun b o q n1 n2=>by rw [zE (ne q n1)];exact q,fun b ⟨us,q⟩=>?_,fun b h=>?_⟩
 ·by_cases z:b=a;·subst z;exact ⟨vs,yn⟩
  ·exact ⟨us,by rw [zE z];exact q⟩
 ·rcases h with ⟨us,q⟩ | ⟨o,us,q⟩;·exact .inl ⟨us,by rw [zE (ne q (by intro _ z;cases z))];exact q⟩
  ·exact .inr ⟨o,us,by rw [zE (ne q (by intro _ z;cases z))];exact q⟩
theorem uK.gen{xs:List D}{a:Addr}(k:Kp H H')(hi:∀ (l:Nat) a,Y[l]? = some a->Y'[l]? = some a)(e:H' a=H a)(h:uK mg H Y xs a):uK mg H' Y' xs a:=by
 rcases h with ⟨vs,h1,h2⟩ | ⟨kvs,h1,h2⟩ | ⟨o,kvs,ys,h1,h2⟩;·exact .inl ⟨vs,e.trans h1,h2.gen k hi⟩
 ·exact .inr (.inl ⟨kvs,e.trans h1,h2⟩)
 ·exact .inr (.inr ⟨o,kvs,ys,e.trans h1,h2⟩)
theorem uK.ne{xs:List D}{a p:Addr}(h:uK mg H Y xs a)(hp:H p=none):a≠p:=by
 rintro rfl;rcases h.kind with ⟨_,e⟩ | ⟨_,e⟩ | ⟨_,_,e⟩<;>rw [hp] at e<;>cases e
theorem Rep.notin{p:Addr}(r:Rep mg H Y s)(hp:H p=none):p∉Y:=fun z=>by rcases r.mt p z with ⟨_,e⟩ | ⟨_,e⟩ | ⟨_,_,e⟩<;>rw [hp] at e<;>cases e
theorem wl.lay{p:Addr}{o:HO}(r:Rep mg H Y s)(hp:H p=none)(ho:∀ vs,o≠.lst vs):wl mg H Y (upd H p o) Y s:= ⟨⟨r.len,r.nd,fun l xs h=>let ⟨a,h1,h2⟩:=r.cell l xs h;⟨a,h1,h2.gen (.new hp) (fun _ _ q=>q) (zE (h2.ne hp))⟩,r.flat⟩,_cK _,fun b u h _=>jl hp b u h,fun a h1 h2=>absurd h1 h2,fun a ha=>(r.mt a ha).imp (fun h=>⟨h,(Kp.new hp).l a h⟩) fun h=>⟨h,(Kp.new hp).c a h,fun _ _ e=>jl hp a _ e⟩⟩
theorem wl.layC{p:Addr}{o:HO}{xs:List D}(r:Rep mg H Y s)(hp:H p=none)(hc:uK mg (upd H p o) (Y++[p]) xs p)(hf:D.flat.flats xs=true):wl mg H Y (upd H p o) (Y++[p]) (s++[xs]):=by
 have pn:p∉Y:=r.notin hp;have hi:∀ (l:Nat) a,Y[l]? = some a->(Y++[p])[l]? = some a:=fun l a h=>by rw [_v (_c.mp h).1];exact h
 refine ⟨⟨by simp [r.len],?_,fun l ys h=>?_,fun ys h=>?_⟩,List.prefix_append _ _,fun b u h _=>jl hp b u h,fun a h1 h2=>?_,fun a ha=>(r.mt a ha).imp (fun h=>⟨h,(Kp.new hp).l a h⟩) fun h=>⟨h,(Kp.new hp).c a h,fun _ _ e=>jl hp a _ e⟩⟩
 ·rw [List.nodup_append];exact ⟨r.nd,by simp,fun a ha b hb=>by
   have:b=p:=by simpa using hb
   subst this;exact fun z=>pn (z ▸ ha)⟩
 ·by_cases hl:l<s.length
  ·rw [_v hl] at h;obtain ⟨a,h1,h2⟩:=r.cell l ys h;exact ⟨a,hi l a h1,h2.gen (.new hp) hi (zE (h2.ne hp))⟩
  ·have h0:l=s.length:=by
    have:=(_c.mp h).1;simp at this;omega
   subst h0;simp at h;subst h;exact ⟨p,by rw [<- r.len];simp,hc⟩
 ·rcases _ag.mp h with h | h;·exact r.flat ys h
  ·have:ys=xs:=by simpa using h
   rw [this];exact hf
 ·rcases _ag.mp h1 with h | h;·exact absurd h h2
  ·have:a=p:=by simpa using h
   rw [this];exact hp
theorem wl.layL{p:Addr}{xs:List D}{vs:List V}(r:Rep mg H Y s)(hp:H p=none)(hd:zA mg H Y xs vs)(hf:D.flat.flats xs=true):wl mg H Y (upd H p (.lst vs)) (Y++[p]) (s++[xs]):= wl.layC r hp (.inl ⟨vs,yn,hd.gen (.new hp) fun l a h=>by rw [_v (_c.mp h).1];exact h⟩) hf
theorem wl.putC{l:Nat}{a:Addr}{o:HO}{xs:List D}(r:Rep mg H Y s)(ha:Y[l]? = some a)(k:Kp H (upd H a o))(hc:uK mg (upd H a o) Y xs a)(hf:D.flat.flats xs=true):wl mg H Y (upd H a o) Y (s.set l xs):=by
 have hai:a∈Y:=_y ha;have hll:l<s.length:=by rw [<- r.len];exact (_c.mp ha).1
 refine ⟨⟨by simp [r.len],r.nd,fun j ys h=>?_,fun ys h=>?_⟩,_cK _,fun b u h hn=>?_,fun a h1 h2=>absurd h1 h2,fun b hb=>(r.mt b hb).imp (fun h=>⟨h,k.l b h⟩) fun h=>⟨h,k.c b h,fun _ _ e=>k.k b _ e (by intro _ z;cases z) (by intro _ z;cases z)⟩⟩
 ·by_cases hj:l=j
  ·subst hj;rw [_P hll] at h;cases h;exact ⟨a,ha,hc⟩
  ·rw [_K hj] at h;obtain ⟨b,h1,h2⟩:=r.cell j ys h;refine ⟨b,h1,h2.gen k (fun _ _ q=>q) (zE ?_)⟩;rintro rfl;have il:l<Y.length:=(_c.mp ha).1;have ij:j<Y.length:=(_c.mp h1).1;exact hj ((_aG r.nd).mp (((_c.mp ha).2).trans ((_c.mp h1).2).symm))
 ·rcases _bj h with h | h;·exact r.flat ys h
  ·rw [h];exact hf
 ·rw [zE (fun z=>by subst z;exact hn hai)];exact h
theorem wl.put{l:Nat}{a:Addr}{xs:List D}{vs:List V}(r:Rep mg H Y s)(ha:Y[l]? = some a)(ka:IsL H a)(hd:zA mg H Y xs vs)(hf:D.flat.flats xs=true):wl mg H Y (upd H a (.lst vs)) Y (s.set l xs):= wl.putC r ha (.putL ka) (.inl ⟨vs,yn,hd.gen (.putL ka) fun _ _ q=>q⟩) hf
def listOf(s:Sto):D->Option (List D)
 | .lst xs=>some xs | .loc l=>s[l]? | _=>none
def zO(s:Sto):D->Option (List D)
 | .tup xs=>some xs | .lst xs=>some xs | .scr xs=>some xs | .loc l=>s[l]? | _=>none
theorem zM{d:D}{xs:List D}{v:V}(r:Rep mg H Y s)(h:listOf s d=some xs)(dn:Den mg H Y d v):∃ a vs,v=.ref a/\Rd H a (.lst vs)/\zA mg H Y xs vs:=by cases d with
 | lst ys=>
  simp only [listOf,_p] at h;subst h;simp only [Den] at dn;obtain ⟨a,o,vs,e,h1,h2⟩:=dn;exact ⟨a,vs,e,.inr ⟨o,h1⟩,h2⟩ | loc l=>
  simp only [Den] at dn;obtain ⟨a,e,h1,k⟩:=dn;obtain ⟨vs,h3,h4⟩:=r.at_ h h1 k;exact ⟨a,vs,e,.inl h3,h4⟩ | _=>simp [listOf] at h
theorem zdp{xs:List D}{v:V}(dn:Den mg H Y (.scr xs) v):∃ a vs,v=.ref a/\SqL mg.K H a vs/\zA mg H Y xs vs:=by
 simp only [Den] at dn;obtain ⟨a,vs,e,h1,h2⟩:=dn;exact ⟨a,vs,e,h1.elim (fun ⟨o,h⟩=>.inl (.inr ⟨o,h⟩)) .inr,h2⟩
theorem qt{K:W.Frag}{d:D}{xs:List D}{v:V}(r:Rep mg H Y s)(h:zO s d=some xs)(dn:Den mg H Y d v)(hK:mg.K=K:=by rfl):∃ a vs,v=.ref a/\(SqL K H a vs\/SqT K H a vs)/\zA mg H Y xs vs:=by cases d with
 | tup ys=>
  simp only [zO,_p] at h;subst h;simp only [Den] at dn;obtain ⟨a,vs,e,h1,h2⟩:=dn;exact ⟨a,vs,e,.inr (.inl (.inl h1)),h2⟩ | lst ys=>
  obtain ⟨a,vs,e,h1,h2⟩:=zM (d:=.lst ys) r h dn;exact ⟨a,vs,e,.inl (.inl h1),h2⟩ | scr ys=>
  simp only [zO,_p] at h;subst h;subst hK;obtain ⟨a,vs,e,h1,h2⟩:=zdp dn;exact ⟨a,vs,e,.inl h1,h2⟩ | loc l=>
  obtain ⟨a,vs,e,h1,h2⟩:=zM (d:=.loc l) r h dn;exact ⟨a,vs,e,.inl (.inl h1),h2⟩ | _=>simp [zO] at h
theorem uh{K:W.Frag}{xs:List D}{v:V}(dn:Den mg H Y (.tup xs) v):∃ a vs,v=.ref a/\SqT K H a vs/\zA mg H Y xs vs:=by
 simp only [Den] at dn;obtain ⟨a,vs,e,h1,h2⟩:=dn;exact ⟨a,vs,e,.inl (.inl h1),h2⟩
end
def cap:Nat:=100000
theorem qG{n:Nat}(h:n<=cap):n<=sizeLine:=_R h (by decide)
theorem zhl{n:Nat}(h:n<cap):n<sizeLine:=_q h (by decide)
def BIG:Nat:=2 ^ 4096
def vM:D->D->Sto->R D
 | .int i,.int j,s=>.ok (.int (i+j)) s | .tup a,.tup b,s=>if a.length+b.length<=cap then .ok (.tup (a++b)) s else .no | x,y,s=>match listOf s x,listOf s y with
  | some a,some b=>if a.length+b.length<=cap then .ok (.lst (a++b)) s else .no | _,_=>.no
section
variable {X:Cx}{E:XK}
theorem yd{mg:Gm}{H:Hp}{Y:List Addr}{i:Int}{v:V}(h:Den mg H Y (.int i) v):v=.int i:=by simpa [Den] using h
theorem qI{mg:Gm}{H:Hp}{Y:List Addr}{i:Bool}{v:V}(h:Den mg H Y (.bl i) v):v=.bl i:=by simpa [Den] using h
theorem uR{mg:Gm}{H:Hp}{Y:List Addr}{i:Str}{v:V}(h:Den mg H Y (.str i) v):v=.str i:=by simpa [Den] using h
theorem yL{mg:Gm}{H:Hp}{Y:List Addr}{i:Int}:Den mg H Y (.int i) (.int i):=by simp [Den]
theorem xJ{mg:Gm}{H:Hp}{Y:List Addr}{i:Bool}:Den mg H Y (.bl i) (.bl i):=by simp [Den]
theorem uA{mg:Gm}{H:Hp}{Y:List Addr}{s:Sto}{xs:List D}{vs:List V}{Q:VK}(r:Rep mg H Y s)(h:okR mg E H Y (Den mg) (.ok (.lst xs) s) Q)(hd:zA mg H Y xs vs):∀ p,H p=none->zbh Q (.ref p) (upd H p (.lst vs)):=fun p hp=>by
 refine ⟨p,vs,rfl,yn,fun o=>?_⟩;rw [ze7];have stp:=wl.lay (o:=.frz o (.lst vs)) r hp (by intro _ z;cases z);refine h _ _ _ stp ?_;simp only [Den];exact ⟨p,o,vs,rfl,yn,hd.mono stp⟩
theorem z0J{mg:Gm}{H:Hp}{Y:List Addr}{s:Sto}{xs:List D}{vs:List V}{Q:VK}(r:Rep mg H Y s)(h:okR mg E H Y (Den mg) (.ok (.tup xs) s) Q)(hd:zA mg H Y xs vs):∀ p,H p=none->Q (.ref p) (upd H p (.tup vs)):=fun p hp=>by
 have stp:=wl.lay (o:=.tup vs) r hp (by intro _ z;cases z);refine h _ _ _ stp ?_;simp only [Den];exact ⟨p,vs,rfl,yn,hd.mono stp⟩
theorem xj:∃ r,OpR X (binaryOp .Add) r/\OpF X E r vM:=by
 refine ⟨_,zgH.or ((zcg).or ((zeh).or (zdK.freeze))),?_⟩;intro H Y s d1 d2 v1 v2 Q r h1 h2 h;have lists:∀ a b,listOf s d1=some a->listOf s d2=some b->okR (gm X) E H Y (Den (gm X)) (if a.length+b.length<=cap then R.ok (D.lst (a++b)) s else .no) Q-> ∃ l b xs zs,v1=.ref l/\v2=.ref b/\Rd H l (.lst xs)/\Rd H b (.lst zs)/\xs.length+zs.length<=sizeLine/\∀ p,H p=none->zbh Q (.ref p) (upd H p (.lst (xs++zs))):=fun a b ha hb hq=>by
  obtain ⟨l,vs,e,q1,q2⟩:=zM r ha h1;obtain ⟨l',vs',e',q1',q2'⟩:=zM r hb h2;split at hq
  ·rename_i hl;exact ⟨l,l',vs,vs',e,e',q1,q1',by rw [q2.length,q2'.length];exact qG hl,uA r hq (q2.append q2')⟩
  ·exact hq.elim
 unfold vM at h;split at h
 ·rename_i i j;cases yd h1;cases yd h2;exact .inl ⟨i,j,rfl,rfl,h.here r yL⟩
 ·rename_i a b;obtain ⟨l,vs,rfl,q1,q2⟩:=uh (K:=X.K) h1;obtain ⟨l',vs',rfl,q1',q2'⟩:=uh (K:=X.K) h2;split at h
  ·rename_i hl;cases a with
   | nil=>
    simp only [zA] at q2;subst q2;exact .inr (.inl ⟨l,l',vs',rfl,rfl,q1,q1',h.here r h2⟩) | cons x a=>
    have ne:vs≠[]:=fun z=>by have:=q2.length;rw [z] at this;simp at this
    refine .inr (.inr (.inl ⟨l,l',vs,vs',rfl,rfl,q1,q1',ne,by rw [q2.length,q2'.length];exact qG hl,fun z=>?_,fun z=>z0J r h (q2.append q2')⟩));have eb:b=[]:=by
     have:=q2'.length;rw [z] at this;exact _aD.mp this.symm
    subst eb;rw [_a8] at h;exact h.here r h1
  ·exact h.elim
 ·split at h
  ·rename_i a b ha hb;exact .inr (.inr (.inr (lists a b ha hb h)))
  ·exact h.elim
end
def dII(g:Int->Int->R D):D->D->Sto->R D
 | .int i,.int j,s=>match g i j with | .ok d _=>.ok d s | _=>.no
 | _,_,_=>.no
def iOk(d:D):R D:=.ok d []
def z9B:D->D->Sto->R D:=dII fun i j=>iOk (.int (i-j))
def ve:D->D->Sto->R D:=dII fun i j=>if i.natAbs<BIG/\j.natAbs<BIG then iOk (.int (i*j)) else .no
def z5t:D->D->Sto->R D:=dII fun i j=>if 0<j/\j.natAbs<BIG then iOk (.int (i / j)) else .no
def zal:D->D->Sto->R D:=dII fun i j=>if 0<j then iOk (.int (i % j)) else .no
def z7R:D->D->Sto->R D:=dII fun i j=>if 0<=j/\j<=1000/\i.natAbs<1000 then iOk (.int (i ^ j.toNat)) else .no
def dLt:D->D->Sto->R D:=dII fun i j=>iOk (.bl (decide (i<j)))
def dLe:D->D->Sto->R D:=dII fun i j=>iOk (.bl (decide (i<=j)))
def dGt:D->D->Sto->R D:=dII fun i j=>iOk (.bl (decide (j<i)))
def dGe:D->D->Sto->R D:=dII fun i j=>iOk (.bl (decide (j<=i)))
section
variable {X:Cx}{E:XK}
theorem z02{g:Int->Int->R D}{r:R2}(h:∀ i j d t H Q,g i j=.ok d t->(∀ v,(∀ H Y,Den (gm X) H Y d v)->Q v H)->r (.int i) (.int j) H Q):OpF X E r (dII g):=by
 intro H Y s d1 d2 v1 v2 Q rp h1 h2 hq;unfold dII at hq;split at hq
 ·rename_i i j;cases yd h1;cases yd h2;split at hq
  ·rename_i d t e;exact h i j d t H Q e fun v hv=>hq.here rp (hv H Y)
  ·exact hq.elim
 ·exact hq.elim
theorem z6Q:∃ r,OpR X (binaryOp .Sub) r/\OpF X E r z9B:=⟨_,zfQ,z02 fun i j d t H Q e q=>by
 simp only [iOk,R.ok.injEq] at e;exact ⟨i,j,rfl,rfl,q _ (by intro H Y;rw [<- e.1];exact yL)⟩⟩
theorem z7Y{i:Int}(h:i.natAbs<BIG):Builtin.Int.intBits i<=2 ^ 20:=by
 have q:Builtin.Int.intBits i<=4096:=(PySem.intBits_le_iff (m:=4096)).mpr h;omega
theorem zfb:OpR X (binaryOp .Mult) (rI (fun i j=>i.natAbs<BIG/\j.natAbs<BIG) fun i j=>.int (i*j)):=opI fun _ _ _ _ _ _ _ hc q=>mul_int q (IntMulOk.of_bits (z7Y hc.1) (z7Y hc.2))
theorem kS:∃ r,OpR X (binaryOp .Mult) r/\OpF X E r ve:=⟨_,zfb,z02 fun i j d t H Q e q=>by
 split at e
 ·rename_i hc;simp only [iOk,R.ok.injEq] at e;exact ⟨i,j,rfl,rfl,hc,q _ (by intro H Y;rw [<- e.1];exact yL)⟩
 ·cases e⟩
theorem zea{j:Int}(h:j.natAbs<BIG):j.natAbs.log2<9000:=by
 by_cases h0:j.natAbs=0;·rw [h0];decide +kernel
 ·have:j.natAbs.log2<4096:=(Nat.log2_lt h0).mpr h;omega
theorem zcu:OpR X (binaryOp .FloorDiv) (rI (fun _ j=>0<j/\j.natAbs<BIG) fun i j=>.int (i / j)):=opI fun i j _ _ _ _ _ hc q=>by
 refine floordiv_int (by omega) ?_ (.inl (PyProof.noPylong_of_log2 (zea hc.2)));rw [Int.fdiv_eq_ediv_of_nonneg _ (by omega)];exact q
theorem zaE:∃ r,OpR X (binaryOp .FloorDiv) r/\OpF X E r z5t:=⟨_,zcu,z02 fun i j d t H Q e q=>by
 split at e
 ·rename_i hc;simp only [iOk,R.ok.injEq] at e;exact ⟨i,j,rfl,rfl,hc,q _ (by intro H Y;rw [<- e.1];exact yL)⟩
 ·cases e⟩
theorem zc0:∃ r,OpR X (binaryOp .Mod) r/\OpF X E r zal:=⟨_,zg2,z02 fun i j d t H Q e q=>by
 split at e
 ·rename_i hc;simp only [iOk,R.ok.injEq] at e;exact ⟨i,j,rfl,rfl,hc,q _ (by intro H Y;rw [<- e.1];exact yL)⟩
 ·cases e⟩
theorem z8P:∃ r,OpR X (binaryOp .Pow) r/\OpF X E r z7R:=⟨_,zh5,z02 fun i j d t H Q e q=>by
 split at e
 ·rename_i hc;simp only [iOk,R.ok.injEq] at e;exact ⟨i,j,rfl,rfl,⟨hc.1,by omega,by omega⟩,q _ (by intro H Y;rw [<- e.1];exact yL)⟩
 ·cases e⟩
theorem zj1:∃ r,OpR X (compareOp .Lt) r/\OpF X E r dLt:=⟨_,ziV,z02 fun i j d t H Q e q=>by
 simp only [iOk,R.ok.injEq] at e;exact ⟨i,j,rfl,rfl,q _ (by intro H Y;rw [<- e.1];exact xJ)⟩⟩
theorem zjh:∃ r,OpR X (compareOp .LtE) r/\OpF X E r dLe:=⟨_,zhT,z02 fun i j d t H Q e q=>by
 simp only [iOk,R.ok.injEq] at e;exact ⟨i,j,rfl,rfl,q _ (by intro H Y;rw [<- e.1];exact xJ)⟩⟩
theorem zhr:∃ r,OpR X (compareOp .Gt) r/\OpF X E r dGt:=⟨_,zin,z02 fun i j d t H Q e q=>by
 simp only [iOk,R.ok.injEq] at e;exact ⟨i,j,rfl,rfl,q _ (by intro H Y;rw [<- e.1];exact xJ)⟩⟩
theorem ziY:∃ r,OpR X (compareOp .GtE) r/\OpF X E r dGe:=⟨_,zix,z02 fun i j d t H Q e q=>by
 simp only [iOk,R.ok.injEq] at e;exact ⟨i,j,rfl,rfl,q _ (by intro H Y;rw [<- e.1];exact xJ)⟩⟩
end
mutual
def vO:D->PyData
 | .non=>.none | .bl b=>.bool b | .int i=>.int i | .str x=>.str x | .tup xs=>.tuple (toPys xs) | .lst xs=>.list (toPys xs) | _=>.dict []
def toPys:List D->List PyData
 | []=>[] | d::ds=>vO d::toPys ds
end
def eqD(a b:D):Bool:=PyData.eqv (vO a) (vO b)
def zco(d:D):Bool:=SeqAt.shaped (vO d)
def dEq(x y:D)(s:Sto):R D:=if zco x=true/\zco y=true then .ok (.bl (eqD x y)) s else .no
def dNe(x y:D)(s:Sto):R D:=if zco x=true/\zco y=true then .ok (.bl (!eqD x y)) s else .no
section
variable {P:Program}{w:World}{mg:Gm}{H:Hp}{Y:List Addr}{h:Heap}
mutual
theorem Den.reads(ok:HOk P w H h):∀ {d:D}{v:V}{u:Value},PyData.canLay0 (vO d)=true->Den mg H Y d v->xK v u->∃ as,Reads h u (vO d) as
 | .non,_,_,_,dn,r=>by simp only [Den] at dn;subst dn;cases r;exact ⟨_,by simpa [vO] using Reads.none⟩ | .bl b,_,_,_,dn,r=>by simp only [Den] at dn;subst dn;cases r;exact ⟨_,by simpa [vO] using Reads.bool b⟩ | .int i,_,_,_,dn,r=>by simp only [Den] at dn;subst dn;obtain ⟨t,rfl⟩:=r;exact ⟨_,by simpa [vO] using Reads.int i t⟩ | .str x,_,_,_,dn,r=>by simp only [Den] at dn;subst dn;obtain ⟨t,rfl⟩:=r;exact ⟨_,by simpa [vO] using Reads.str x t⟩ | .tup ds,_,_,c,dn,r=>by
  simp only [Den] at dn;obtain ⟨a,vs,rfl,h1,h2⟩:=dn;cases r;obtain ⟨_,its,rv,o,e,hc,_,n,hd⟩:=ok a _ h1;obtain ⟨as,q⟩:=zA.reads ok (by simpa [vO,PyData.canLay0] using c) h2 rv;rw [vO];exact ⟨as,Reads.tuple e hc hd (by simpa using q)⟩ | .lst ds,_,_,c,dn,r=>by
  simp only [Den] at dn;obtain ⟨a,o,vs,rfl,h1,h2⟩:=dn;cases r;obtain ⟨_,_,its,n,rv,e⟩:=ok a _ h1;obtain ⟨as,q⟩:=zA.reads ok (by simpa [vO,PyData.canLay0] using c) h2 rv;rw [vO];exact ⟨_,Reads.list e rfl rfl (by simpa using q)⟩ | .dct,_,_,c,_,_=>by simp [vO,PyData.canLay0] at c | .loc _,_,_,c,_,_=>by simp [vO,PyData.canLay0] at c | .fn _,_,_,c,_,_=>by simp [vO,PyData.canLay0] at c | .exc _,_,_,c,_,_=>by simp [vO,PyData.canLay0] at c
theorem zA.reads(ok:HOk P w H h):∀ {ds:List D}{vs:List V}{us:List Value},PyData.canLayAll0 (toPys ds)=true->zA mg H Y ds vs->yA vs us->∃ as,ReadsAll h us (toPys ds) as
 | [],_,_,_,dn,r=>by simp only [zA] at dn;subst dn;cases r;exact ⟨_,by simpa [toPys] using ReadsAll.nil⟩ | d::ds,_,_,c,dn,r=>by
  simp only [zA] at dn;obtain ⟨v,vs,rfl,h1,h2⟩:=dn;simp only [toPys,PyData.canLayAll0,_D] at c;cases r with | cons r1 r2=>
   obtain ⟨as,q⟩:=Den.reads ok c.1 h1 r1;obtain ⟨bs,q'⟩:=zA.reads ok c.2 h2 r2;rw [toPys];exact ⟨_,ReadsAll.cons q q'⟩
end
end
section
variable {X:Cx}{E:XK}
def zjs(mg:Gm)(neg:Bool):R2:=fun x y H Q=>∃ Y d1 d2,Den mg H Y d1 x/\Den mg H Y d2 y/\zco d1=true/\zco d2=true/\Q (.bl (if neg then !eqD d1 d2 else eqD d1 d2)) H
theorem zgT(hu:X.A.units+64<cLine):OpR X (compareOp .Eq) (zjs (gm X) false):=by
 intro pins s O H x y v u Q I rx ry ⟨Y,d1,d2,h1,h2,p1,p2,q⟩;obtain ⟨as,ra⟩:=Den.reads I.hok (_a4 p1) h1 rx;obtain ⟨bs,rb⟩:=Den.reads I.hok (_a4 p2) h2 ry;exact SeqAt.compareEq_shaped ra rb p1 p2 hu ⟨.bl (eqD d1 d2),H,I,rfl,q⟩
theorem zht(hu:X.A.units+64<cLine):OpR X (compareOp .NotEq) (zjs (gm X) true):=by
 intro pins s O H x y v u Q I rx ry ⟨Y,d1,d2,h1,h2,p1,p2,q⟩;obtain ⟨as,ra⟩:=Den.reads I.hok (_a4 p1) h1 rx;obtain ⟨bs,rb⟩:=Den.reads I.hok (_a4 p2) h2 ry;exact SeqAt.compareNe_shaped ra rb p1 p2 hu ⟨.bl (!eqD d1 d2),H,I,rfl,q⟩
theorem z2E(hu:X.A.units+64<cLine):∃ r,OpR X (compareOp .Eq) r/\OpF X E r dEq:=⟨_,zgT hu,fun H Y s d1 d2 v1 v2 Q r h1 h2 h=>by
 unfold dEq at h;split at h
 ·rename_i hc;exact ⟨Y,d1,d2,h1,h2,hc.1,hc.2,h.here r xJ⟩
 ·exact h.elim⟩
theorem z7s(hu:X.A.units+64<cLine):∃ r,OpR X (compareOp .NotEq) r/\OpF X E r dNe:=⟨_,zht hu,fun H Y s d1 d2 v1 v2 Q r h1 h2 h=>by
 unfold dNe at h;split at h
 ·rename_i hc;exact ⟨Y,d1,d2,h1,h2,hc.1,hc.2,h.here r xJ⟩
 ·exact h.elim⟩
def z1O:D->Option V
 | .non=>some .non | .bl b=>some (.bl b) | .int i=>some (.int i) | .str x=>some (.str x) | _=>none
theorem z5J{mg:Gm}{H:Hp}{Y:List Addr}{d:D}{v w:V}(h:z1O d=some w)(dn:Den mg H Y d v):v=w/\z2Z v=true:=by cases d<;>simp only [z1O,_p,reduceCtorEq] at h<;>(simp only [Den] at dn;subst dn;subst h;exact ⟨rfl,rfl⟩)
def je:List D->Option (List V)
 | []=>some [] | d::ds=>match z1O d,je ds with | some v,some vs=>some (v::vs) | _,_=>none
theorem z3u{mg:Gm}{H:Hp}{Y:List Addr}:∀ {ds:List D}{vs ws:List V},je ds=some ws->zA mg H Y ds vs->vs=ws/\vs.all z2Z=true
 | [],_,_,h,dn=>by simp only [je,_p] at h;simp only [zA] at dn;subst dn;subst h;exact ⟨rfl,rfl⟩ | d::ds,_,_,h,dn=>by
  simp only [zA] at dn;obtain ⟨v,vs,rfl,h1,h2⟩:=dn;simp only [je] at h;split at h
  ·rename_i w ws e1 e2;cases h;obtain ⟨a1,a2⟩:=z5J e1 h1;obtain ⟨b1,b2⟩:=z3u e2 h2;exact ⟨by rw [a1,b1],by rw [_bR,a2,b2];rfl⟩
  ·cases h
def z7o(neg:Bool)(x y:D)(s:Sto):R D:=match z1O x,(zO s y).bind je with
 | some v,some vs=>.ok (.bl (if neg then !inV v vs else inV v vs)) s | _,_=>.no
theorem zdE{neg:Bool}:OpF X E (rIn X.K neg) (z7o neg):=fun H Y s d1 d2 v1 v2 Q r h1 h2 h=>by
 unfold z7o at h;split at h
 ·rename_i v vs e1 e2;cases e3:zO s d2 with
  | none=>rw [e3] at e2;cases e2 | some xs=>
   rw [e3] at e2;obtain ⟨a,ws,rfl,q1,q2⟩:=qt (K:=X.K) r e3 h2;obtain ⟨b1,b2⟩:=z3u e2 q2;obtain ⟨a1,a2⟩:=z5J e1 h1;subst a1 b1;exact ⟨a,ws,rfl,q1,a2,b2,h.here r xJ⟩
 ·exact h.elim
theorem zjt:∃ r,OpR X (compareOp .In) r/\OpF X E r (z7o false):=⟨_,zaT,zdE⟩
theorem zey:∃ r,OpR X (compareOp .NotIn) r/\OpF X E r (z7o true):=⟨_,z50,zdE⟩
def dIs:D->D->Sto->R D
 | .bl a,.bl b,s=>.ok (.bl (a==b)) s | .non,.non,s=>.ok (.bl true) s | .bl _,.non,s=>.ok (.bl false) s | .int _,.non,s=>.ok (.bl false) s | .str _,.non,s=>.ok (.bl false) s | .tup _,.non,s=>.ok (.bl false) s | .lst _,.non,s=>.ok (.bl false) s | _,_,_=>.no
theorem zha:OpR X (compareOp .Is) (fun x y H Q=>∃ a b,x=.bl a/\y=.bl b/\Q (.bl (a==b)) H):=by
 intro pins s O H x y v u Q I rx ry ⟨a,b,e1,e2,q⟩;subst e1 e2;cases rx;cases ry;exact is_bool ⟨.bl (a==b),H,I,rfl,q⟩
theorem zjL:∃ r,OpR X (compareOp .Is) r/\OpF X E r dIs:=⟨_,zha.or zfF,fun H Y s d1 d2 v1 v2 Q r h1 h2 h=>by
 unfold dIs at h;split at h
 ·cases qI h1;cases qI h2;exact .inl ⟨_,_,rfl,rfl,h.here r xJ⟩
 ·simp only [Den] at h1 h2;subst h1 h2;exact .inr ⟨rfl,by have:=h.here r xJ;simpa using this⟩
 ·simp only [Den] at h1 h2;subst h1 h2;exact .inr ⟨rfl,by have:=h.here r xJ;simpa using this⟩
 ·simp only [Den] at h1 h2;subst h1 h2;exact .inr ⟨rfl,by have:=h.here r xJ;simpa using this⟩
 ·simp only [Den] at h1 h2;subst h1 h2;exact .inr ⟨rfl,by have:=h.here r xJ;simpa using this⟩
 ·simp only [Den] at h1 h2;obtain ⟨a,vs,rfl,_⟩:=h1;subst h2;exact .inr ⟨rfl,by have:=h.here r xJ;simpa using this⟩
 ·simp only [Den] at h1 h2;obtain ⟨a,o,vs,rfl,_⟩:=h1;subst h2;exact .inr ⟨rfl,by have:=h.here r xJ;simpa using this⟩
 ·exact h.elim⟩
def dIx(x y:D)(s:Sto):R D:=match y,zO s x with
 | .int i,some xs=>match atI xs i with | some d=>.ok d s | none=>.no
 | _,_=>.no
theorem zbN{mg:Gm}{H:Hp}{Y:List Addr}{xs:List D}{vs:List V}{i:Int}{d:D}(h:zA mg H Y xs vs)(e:atI xs i=some d):∃ v,atI vs i=some v/\Den mg H Y d v:=by
 unfold atI at e ⊢;rw [h.length];cases q:ixN xs.length i with
 | none=>rw [q] at e;cases e | some j=>
  rw [q] at e;exact h.get e
theorem zkt:∃ r,IxR X r/\OpF X E r dIx:=⟨_,zep.or zgM,fun H Y s d1 d2 v1 v2 Q r h1 h2 h=>by
 unfold dIx at h;split at h
 ·rename_i i xs e;split at h
  ·rename_i d e2;cases yd h2;obtain ⟨a,vs,rfl,q1,q2⟩:=qt (K:=X.K) r e h1;obtain ⟨v,e3,e4⟩:=zbN q2 e2;rcases q1 with q1 | q1;·exact .inl ⟨a,vs,i,v,rfl,rfl,q1,e3,h.here r e4⟩
   ·exact .inr ⟨a,vs,i,v,rfl,rfl,q1,e3,h.here r e4⟩
  ·exact h.elim
 ·exact h.elim⟩
end
section
variable {X:Cx}{E:XK}{e a b c:Expr}{es:List Expr}{pos:Pos}
theorem zI{op:Operator}{fo:D->D->Sto->R D}{fa fb:FE}(ho:∃ r,OpR X (binaryOp op) r/\OpF X E r fo)(ha:RE X E a fa)(hb:RE X E b fb):RE X E (.BinOp a op b pos) (eOp fo fa fb):=let ⟨_,h⟩:=ho;zjV h ha hb
theorem qF{op:CmpOp}{fo:D->D->Sto->R D}{fa fb:FE}(ho:∃ r,OpR X (compareOp op) r/\OpF X E r fo)(ha:RE X E a fa)(hb:RE X E b fb)(hm:behindInMarks op b=false:=by first | exact zdF _ | rfl):RE X E (.Compare a [op] [b] pos) (eOp fo fa fb):=let ⟨_,h⟩:=ho;zhS h ha hb hm
def tOf(f:FE):FT:=fun Z s=>(f Z s).bind fun d s1=>match d with | .bl k=>.ok k s1 | _=>.no
theorem z7n{f:FE}{O:L2.St}{H:Hp}{Q:Bool->Hp->Prop}(h:tT (gm X) E (tOf f) O H Q):zgB (tE (gm X) E f) O H Q:=by
 obtain ⟨Y,Z,s,r,en,h⟩:=h;refine ya (k:=fun Z d s1=>match d with | .bl k=>.ok k s1 | _=>.no) r en h _ fun v H1 Y1 s1 d r1 en1 dn stp h1=>?_;cases d with
 | bl k=>
  cases qI dn;exact ⟨k,rfl,h1.here (b:=k) r1 rfl⟩ | _=>exact h1.elim
theorem zR{op:CmpOp}{fo:D->D->Sto->R D}{fa fb:FE}(ho:∃ r,OpR X (compareOp op) r/\OpF X E r fo)(ha:RE X E a fa)(hb:RE X E b fb)(hm:behindInMarks op b=false:=by first | exact zdF _ | rfl):RT X E (.Compare a [op] [b] pos) (tOf (eOp fo fa fb)):=by
 obtain ⟨r,h1,h2⟩:=ho;exact zaU (zej h1 ha hb hm) fun O H Q h=>by
  have q:=z7n h;exact z8c h2 q
def z8j(fo fo':D->D->Sto->R D)(fa fb fc:FE):FE:=fun Z s=>(fa Z s).bind fun x s1=>(fb Z s1).bind fun y s2=>(fo x y s2).bind fun z s3=>match z with
 | .bl true=>(fc Z s3).bind fun w s4=>fo' y w s4 | .bl false=>.ok (.bl false) s3 | _=>.no
theorem zan{r r':R2}{fo fo':D->D->Sto->R D}{fa fb fc:FE}(ho:OpF X E r fo)(ho':OpF X E r' fo'){O:L2.St}{H:Hp}{Q:VK}(h:tE (gm X) E (z8j fo fo' fa fb fc) O H Q):zd5 r r' (tE (gm X) E fa) (tE (gm X) E fb) (tE (gm X) E fc) O H Q:=by
 obtain ⟨Y,Z,s,rp,en,h⟩:=h;refine ya (k:=fun Z x s1=>(fb Z s1).bind fun y s2=>(fo x y s2).bind fun z s3=>match z with
  | .bl true=>(fc Z s3).bind fun w s4=>fo' y w s4 | .bl false=>.ok (.bl false) s3 | _=>.no) rp en h _ fun v H1 Y1 s1 d r1 en1 dn stp h1=>?_;refine ya (k:=fun Z y s2=>(fo d y s2).bind fun z s3=>match z with
  | .bl true=>(fc Z s3).bind fun w s4=>fo' y w s4 | .bl false=>.ok (.bl false) s3 | _=>.no) r1 en1 h1 _ fun v2 H2 Y2 s2 d2 r2 en2 dn2 stp2 h2=>?_;refine ho H2 Y2 s2 d d2 v v2 _ r2 (dn.mono stp2) dn2 ((okR.bind (Dn:=Den (gm X)) h2).imp fun v3 H3 ⟨Y3,s3,d3,stp3,dn3,h3⟩=>?_);cases d3 with
 | bl k=>
  cases qI dn3;refine ⟨k,rfl,?_⟩;cases k with
  | true=>
   rw [_d rfl];refine ya (k:=fun Z w s4=>fo' d2 w s4) stp3.rep (en2.mono stp3) h3 _ fun v4 H4 Y4 s4 d4 r4 en4 dn4 stp4 h4=>?_;exact ho' H4 Y4 s4 d2 d4 v2 v4 Q r4 ((dn2.mono stp3).mono stp4) dn4 h4 | false=>
   rw [_o (by decide)];exact okR.here (b:=V.bl false) h3 stp3.rep xJ
 | _=>exact h3.elim
theorem zeJ{op op':CmpOp}{fo fo':D->D->Sto->R D}{fa fb fc:FE}(ho:∃ r,OpR X (compareOp op) r/\OpF X E r fo)(ho':∃ r,OpR X (compareOp op') r/\OpF X E r fo')(ha:RE X E a fa)(hb:RE X E b fb)(hc:RE X E c fc) (hm:lastMarks [op,op'] [b,c]=false:=by with_unfolding_all rfl):RE X E (.Compare a [op,op'] [b,c] pos) (z8j fo fo' fa fb fc):=by
 obtain ⟨r,h1,h2⟩:=ho;obtain ⟨r',h1',h2'⟩:=ho';exact zN (zcf h1 h1' ha hb hc hm) fun O H Q h=>zan h2 h2' h
def zbg(fa fb:FE):FE:=fun Z s=>(fa Z s).bind fun x s1=>match x with | .bl true=>fb Z s1 | .bl false=>.ok (.bl false) s1 | _=>.no
def zhM(fa:FE):FE:=fun Z s=>(fa Z s).bind fun x s1=>match x with | .bl k=>.ok (.bl (!k)) s1 | _=>.no
variable {uB:List Expr}
theorem z5A{op:BoolOp}{f:FE}(h:RE X E a f):RE X E (.BoolOp op [a] pos) f:=zgn h
theorem z5Y{fa fb:FE}(ha:RE X E a fa)(hb:RE X E (.BoolOp .And (b::uB) pos) fb):RE X E (.BoolOp .And (a::b::uB) pos) (zbg fa fb):= zN (zfH ha hb) fun O H Q ⟨Y,Z,s,r,en,h⟩=>by
  refine ya (k:=fun Z x s1=>match x with | .bl true=>fb Z s1 | .bl false=>.ok (.bl false) s1 | _=>.no) r en h _ fun v H1 Y1 s1 d r1 en1 dn stp h1=>?_;cases d with
  | bl k=>
   cases qI dn;refine ⟨k,rfl,?_⟩;cases k with
   | true=>rw [_d rfl];exact ⟨Y1,Z,s1,r1,en1,h1⟩ | false=>rw [_o (by decide)];exact okR.here (b:=V.bl false) h1 r1 xJ
  | _=>exact h1.elim
theorem zgm{fa:FE}(ha:RE X E a fa):RE X E (.UnaryOp .Not a pos) (zhM fa):= zN (zh8 ha) fun O H Q ⟨Y,Z,s,r,en,h⟩=>by
  refine ya (k:=fun Z x s1=>match x with | .bl k=>R.ok (D.bl (!k)) s1 | _=>.no) r en h _ fun v H1 Y1 s1 d r1 en1 dn stp h1=>?_;cases d with
  | bl k=>
   cases qI dn;exact ⟨k,rfl,okR.here (b:=V.bl (!k)) h1 r1 xJ⟩ | _=>exact h1.elim
def zbL(fa fb:FT):FT:=fun Z s=>(fa Z s).bind fun x s1=>if x=true then fb Z s1 else .ok false s1
def fOr(fa fb:FT):FT:=fun Z s=>(fa Z s).bind fun x s1=>if x=true then .ok true s1 else fb Z s1
def z2c(fa:FT):FT:=fun Z s=>(fa Z s).bind fun x s1=>.ok (!x) s1
def RW(X:Cx)(E:XK)(e:Expr)(f:FT):Prop:=PW X e (tT (gm X) E f)
theorem RW.rt{f:FT}(h:RW X E e f):RT X E e f:=PW.pt h
theorem zdg{t t':TT}(h:PW X e t)(i:∀ O H Q,t' O H Q->t O H Q):PW X e t':=fun wh pins s O H Q I q=>h wh pins s O H Q I (i O H Q q)
theorem za7{f:FT}(h:RT X E a f):RW X E (.BoolOp .And [a] pos) f:=zeS h
theorem z6M{f:FT}(h:RT X E a f):RW X E (.BoolOp .Or [a] pos) f:=zgC h
theorem w_and{fa fb:FT}(ha:RT X E a fa)(hb:RW X E (.BoolOp .And (b::uB) pos) fb):RW X E (.BoolOp .And (a::b::uB) pos) (zbL fa fb):= zdg (zgA ha hb) fun O H Q ⟨Y,Z,s,r,en,h⟩=>by
  refine z1V (k:=fun Z x s1=>if x=true then fb Z s1 else .ok false s1) r en h _ fun v H1 Y1 s1 r1 en1 stp h1=>?_;cases v with
  | true=>rw [_d rfl] at h1 ⊢;exact ⟨Y1,Z,s1,r1,en1,h1⟩ | false=>rw [_o (by decide)] at h1 ⊢;exact h1.here r1 rfl
theorem zdD{fa fb:FT}(ha:RT X E a fa)(hb:RW X E (.BoolOp .Or (b::uB) pos) fb):RW X E (.BoolOp .Or (a::b::uB) pos) (fOr fa fb):= zdg (ziG ha hb) fun O H Q ⟨Y,Z,s,r,en,h⟩=>by
  refine z1V (k:=fun Z x s1=>if x=true then .ok true s1 else fb Z s1) r en h _ fun v H1 Y1 s1 r1 en1 stp h1=>?_;cases v with
  | false=>rw [_o (by decide)] at h1 ⊢;exact ⟨Y1,Z,s1,r1,en1,h1⟩ | true=>rw [_d rfl] at h1 ⊢;exact h1.here r1 rfl
theorem jJ{fa:FT}(ha:RT X E a fa):RT X E (.UnaryOp .Not a pos) (z2c fa):= zaU (zg6 ha) fun O H Q ⟨Y,Z,s,r,en,h⟩=>z1V (k:=fun Z x s1=>.ok (!x) s1) r en h _ fun v H1 Y1 s1 r1 en1 stp h1=>h1.here r1 rfl
theorem uH{f:FE}(h:RE X E a f)(he:∀ whole,isTrue a X.env whole=(do let v <- whole;standAt a.pos;holding [v] (truthy v)):=by intro _;rfl):RT X E a (tOf f):= zaU (zh2 h he) fun O H Q h=>z7n h
def eIf(ft:FT)(fa fb:FE):FE:=fun Z s=>(ft Z s).bind fun x s1=>if x=true then fa Z s1 else fb Z s1
theorem zjj{ft:FT}{fa fb:FE}(hc:RT X E c ft)(ha:RE X E a fa)(hb:RE X E b fb):RE X E (.IfExp c a b pos) (eIf ft fa fb):= zN (zc1 hc ha hb) fun O H Q ⟨Y,Z,s,r,en,h⟩=>z1V (k:=fun Z x s1=>if x=true then fa Z s1 else fb Z s1) r en h _ fun v H1 Y1 s1 r1 en1 stp h1=>by cases v with
  | true=>rw [_d rfl] at h1 ⊢;exact ⟨Y1,Z,s1,r1,en1,h1⟩ | false=>rw [_o (by decide)] at h1 ⊢;exact ⟨Y1,Z,s1,r1,en1,h1⟩
theorem uj {fa fb:FE} (ha:RE X E a fa) (hb:RE X E b fb) (hs:z6R b:=by intro _ _;rfl):RE X E (.Subscript a b pos) (eOp dIx fa fb):=by
 obtain ⟨r,h1,h2⟩:=zkt (X:=X) (E:=E);exact zN (zgw h1 ha hb hs) fun O H Q h=>z8c h2 h
def zh:FA:=fun _ s=>.ok [] s
def za(fa:FE)(fr:FA):FA:=fun Z s=>(fa Z s).bind fun x s1=>(fr Z s1).bind fun xs s2=>.ok (x::xs) s2
theorem zd:RA X E [] zh:=zd8 jc fun O H Q ⟨Y,Z,s,r,en,h⟩=>h.here r zA.nil
theorem qH{fa:FE}{fr:FA}(ha:RE X E e fa)(hr:RA X E es fr)(hs:starEach (e::es) X.env=(false,eval e X.env)::starEach es X.env:=by rfl):RA X E (e::es) (za fa fr):= zd8 (xM ha hr hs) fun O H Q ⟨Y,Z,s,r,en,h⟩=>by
  refine ya (k:=fun Z x s1=>(fr Z s1).bind fun xs s2=>.ok (x::xs) s2) r en h _ fun v H1 Y1 s1 d r1 en1 dn stp h1=>?_;refine um (k:=fun Z xs s2=>.ok (d::xs) s2) r1 en1 h1 _ fun vs H2 Y2 s2 ds r2 en2 dn2 stp2 h2=>?_;exact h2.here r2 (zA.cons (dn.mono stp2) dn2)
def wT(f:FA):FE:=fun Z s=>(f Z s).bind fun xs s1=>if xs.length<=cap then .ok (.tup xs) s1 else .no
theorem xr{f:FA}{x1:Nat}(h:RA X E es f):RE X E (.Tuple es x1 pos) (wT f):= zN (zd4 h) fun O H Q ⟨Y,Z,s,r,en,h⟩=>by
  refine um (k:=fun Z xs s1=>if xs.length<=cap then R.ok (D.tup xs) s1 else .no) r en h _ fun vs H2 Y2 s2 ds r2 en2 dn2 stp2 h2=>?_;split at h2
  ·rename_i hl;exact ⟨by rw [dn2.length];exact qG hl,z0J r2 h2 dn2⟩
  ·exact h2.elim
def jO(f:FA):FE:=fun Z s=>(f Z s).bind fun xs s1=>if xs.length<=cap then .ok (.lst xs) s1 else .no
theorem wW{f:FA}(h:RA X E es f):RE X E (.List es pos) (jO f):= zN (zdG h).freeze fun O H Q ⟨Y,Z,s,r,en,h⟩=>by
  refine um (k:=fun Z xs s1=>if xs.length<=cap then R.ok (D.lst xs) s1 else .no) r en h _ fun vs H2 Y2 s2 ds r2 en2 dn2 stp2 h2=>?_;split at h2
  ·rename_i hl;exact ⟨by rw [dn2.length];exact qG hl,uA r2 h2 dn2⟩
  ·exact h2.elim
def zar(f:FA):FE:=fun Z s=>(f Z s).bind fun xs s1=>if xs.length<=cap/\D.flat.flats xs=true then .ok (.loc s1.length) (s1++[xs]) else .no
theorem z9m{mg:Gm}{H:Hp}{Y:List Addr}{s:Sto}{xs:List D}{vs:List V}{Q:VK}(r:Rep mg H Y s)(h:okR mg E H Y (Den mg) (.ok (.loc s.length) (s++[xs])) Q)(hf:D.flat.flats xs=true)(hd:zA mg H Y xs vs):∀ p,H p=none->Q (.ref p) (upd H p (.lst vs)):=fun p hp=>by
 refine h _ _ _ (wl.layL r hp hd hf) ?_;simp only [Den];exact ⟨p,rfl,by rw [<- r.len];simp,vs,yn⟩
theorem z60{f:FA}(h:RA X E es f):RE X E (.List es pos) (zar f):= zN (zdG h) fun O H Q ⟨Y,Z,s,r,en,h⟩=>by
  refine um (k:=fun Z xs s1=>if xs.length<=cap/\D.flat.flats xs=true then R.ok (D.loc s1.length) (s1++[xs]) else .no) r en h _ fun vs H2 Y2 s2 ds r2 en2 dn2 stp2 h2=>?_;split at h2
  ·rename_i hl;exact ⟨by rw [dn2.length];exact qG hl.1,z9m r2 h2 hl.2 dn2⟩
  ·exact h2.elim
def z04(X:Cx)(E:XK)(r:List V->Hp->VK->Prop)(g:List D->Sto->R D):Prop:= ∀ H Y s ds vs (Q:VK),Rep (gm X) H Y s->zA (gm X) H Y ds vs->okR (gm X) E H Y (Den (gm X)) (g ds s) Q->r vs H Q
def ze(g:List D->Sto->R D)(f:FA):FE:=fun Z s=>(f Z s).bind fun xs s1=>g xs s1
theorem zC {x:Str} {p:Pos} {id:String} {g:List D->Sto->R D} {f:FA} (hc:∃ r,xD X (.builtin id) r/\z04 X E r g) (hg:Gl X x) (hm:X.mg x=none) (hv:bootBuiltins x=some (.builtin id)) (ha:RA X E (e::es) f) (hn:x≠"__name__":=by decide) (hdb:(x==("__debug__":Str))=false:=by decide) (he:starEach (e::es) X.env=(false,eval e X.env)::starEach es X.env:=by rfl) (hpl:(backTo pos (starEach es X.env)).any (·.1)=false:=by rfl):RE X E (.Call (.Name x p) (e::es) [] pos) (ze g f):=by
 obtain ⟨r,h1,h2⟩:=hc;exact zN (z07 h1 hg hm hv ha hn hdb he hpl) fun O H Q ⟨Y,Z,s,r,en,h⟩=> um (k:=fun Z xs s1=>g xs s1) r en h _ fun vs H2 Y2 s2 ds r2 en2 dn2 stp2 h3=>h2 H2 Y2 s2 ds vs Q r2 dn2 h3
theorem qR {x:Str} {p:Pos} {T:String} {g:List D->Sto->R D} {f:FA} (hc:∃ r,xD X (.type T) r/\z04 X E r g) (hg:Gl X x) (hm:X.mg x=none) (hv:bootBuiltins x=some (.type T)) (ha:RA X E (e::es) f) (hn:x≠"__name__":=by decide) (hdb:(x==("__debug__":Str))=false:=by decide) (he:starEach (e::es) X.env=(false,eval e X.env)::starEach es X.env:=by rfl) (hpl:(backTo pos (starEach es X.env)).any (·.1)=false:=by rfl):RE X E (.Call (.Name x p) (e::es) [] pos) (ze g f):=by
 obtain ⟨r,h1,h2⟩:=hc;exact zN (zaP h1 hg hm hv ha hn hdb he hpl) fun O H Q ⟨Y,Z,s,r,en,h⟩=> um (k:=fun Z xs s1=>g xs s1) r en h _ fun vs H2 Y2 s2 ds r2 en2 dn2 stp2 h3=>h2 H2 Y2 s2 ds vs Q r2 dn2 h3
theorem z0a{mg:Gm}{H:Hp}{Y:List Addr}{d:D}{vs:List V}(h:zA mg H Y [d] vs):∃ v,vs=[v]/\Den mg H Y d v:=by
 simp only [zA] at h;obtain ⟨v,r,rfl,h1,rfl⟩:=h;exact ⟨v,rfl,h1⟩
theorem z4U{mg:Gm}{H:Hp}{Y:List Addr}{d d':D}{vs:List V}(h:zA mg H Y [d,d'] vs):∃ v v',vs=[v,v']/\Den mg H Y d v/\Den mg H Y d' v':=by
 simp only [zA] at h;obtain ⟨v,r,rfl,h1,v',r',rfl,h2,rfl⟩:=h;exact ⟨v,v',rfl,h1,h2⟩
def xi:List D->Sto->R D
 | [d],s=>match zO s d with | some xs=>.ok (.int xs.length) s | none=>.no
 | _,_=>.no
theorem uD:∃ r,xD X (.builtin "len") r/\z04 X E r xi:=⟨_,z5o,fun H Y s ds vs Q r hd h=>by
 unfold xi at h;split at h
 ·split at h
  ·rename_i d xs e;obtain ⟨v,rfl,dn⟩:=z0a hd;obtain ⟨a,ws,rfl,q1,q2⟩:=qt (K:=X.K) r e dn;exact ⟨a,ws,rfl,q1,by rw [q2.length];exact h.here r yL⟩
  ·exact h.elim
 ·exact h.elim⟩
def vY:List D->Sto->R D
 | [d],s=>match zO s d with | some xs=>.ok (.tup xs) s | none=>.no
 | _,_=>.no
theorem z2B:∃ r,xD X (.type "tuple") r/\z04 X E r vY:=⟨_,z4D,fun H Y s ds vs Q r hd h=>by match ds,hd,h with
 | [],_,h=>exact h.elim | _::_::_,_,h=>exact h.elim | [d],hd,h=>
  obtain ⟨v,rfl,dn⟩:=z0a hd;simp only [vY] at h;cases e:zO s d with
  | none=>rw [e] at h;exact h.elim | some xs=>
   rw [e] at h;cases d with
   | tup ys=>
    simp only [zO,_p] at e;subst e;obtain ⟨a,ws,rfl,q1,q2⟩:=uh (K:=X.K) dn;exact ⟨a,ws,rfl,.inr ⟨q1,h.here r dn⟩⟩ | lst ys=>
    obtain ⟨a,ws,rfl,q1,q2⟩:=zM (d:=.lst ys) r e dn;exact ⟨a,ws,rfl,.inl ⟨.inl q1,z0J r h q2⟩⟩ | loc l=>
    obtain ⟨a,ws,rfl,q1,q2⟩:=zM (d:=.loc l) r e dn;exact ⟨a,ws,rfl,.inl ⟨.inl q1,z0J r h q2⟩⟩ | scr ys=>
    simp only [zO,_p] at e;subst e;obtain ⟨a,ws,rfl,q1,q2⟩:=zdp dn;exact ⟨a,ws,rfl,.inl ⟨q1,z0J r h q2⟩⟩ | _=>simp [zO] at e⟩
def z98:List D->Sto->R D
 | [d],s=>match zO s d with | some xs=>.ok (.lst xs) s | none=>.no
 | _,_=>.no
theorem zg7:∃ r,xD X (.type "list") r/\z04 X E r z98:=⟨_,z6d.freeze,fun H Y s ds vs Q r hd h=>by
 unfold z98 at h;split at h
 ·split at h
  ·rename_i d xs e;obtain ⟨v,rfl,dn⟩:=z0a hd;obtain ⟨a,ws,rfl,q1,q2⟩:=qt (K:=X.K) r e dn;exact ⟨a,ws,rfl,q1,uA r h q2⟩
  ·exact h.elim
 ·exact h.elim⟩
def zbf:List D->Sto->R D
 | [.int i],s=>.ok (.int i) s | [.bl b],s=>.ok (.int (if b then 1 else 0)) s | _,_=>.no
theorem zgx:∃ r,xD X (.type "int") r/\z04 X E r zbf:=⟨_,zau,fun H Y s ds vs Q r hd h=>by
 unfold zbf at h;split at h
 ·rename_i i;obtain ⟨v,rfl,dn⟩:=z0a hd;cases yd dn;exact .inl ⟨i,rfl,h.here r yL⟩
 ·rename_i b;obtain ⟨v,rfl,dn⟩:=z0a hd;cases qI dn;exact .inr ⟨b,rfl,h.here r yL⟩
 ·exact h.elim⟩
def zck:List D->Sto->R D
 | [.int i,.int j],s=>.ok (.int (if j > i then j else i)) s | _,_=>.no
def z4J:List D->Sto->R D
 | [.int i,.int j],s=>.ok (.int (if j<i then j else i)) s | _,_=>.no
theorem zhB(hc:X.calm=true):∃ r,xD X (.builtin "max") r/\z04 X E r zck:=⟨_,zap hc,fun H Y s ds vs Q r hd h=>by
 unfold zck at h;split at h
 ·rename_i i j;obtain ⟨v,v',rfl,d1,d2⟩:=z4U hd;cases yd d1;cases yd d2;exact ⟨i,j,rfl,h.here r yL⟩
 ·exact h.elim⟩
theorem zdq(hc:X.calm=true):∃ r,xD X (.builtin "min") r/\z04 X E r z4J:=⟨_,z9u hc,fun H Y s ds vs Q r hd h=>by
 unfold z4J at h;split at h
 ·rename_i i j;obtain ⟨v,v',rfl,d1,d2⟩:=z4U hd;cases yd d1;cases yd d2;exact ⟨i,j,rfl,h.here r yL⟩
 ·exact h.elim⟩
abbrev FO:=Ev->Sto->R (Option Int)
def oD(_:Hp)(_:List Addr)(a b:Option Int):Prop:=a=b
def tO(mg:Gm)(E:XK)(f:FO):TO:=fun O H Q=>∃ Y Z s,Rep mg H Y s/\ux mg H Y Z O/\okR mg E H Y oD (f Z s) Q
def RO(X:Cx)(E:XK)(e:Option Expr)(f:FO):Prop:=PO X e (tO (gm X) E f)
theorem zd6{o:Option Expr}{t t':TO}(h:PO X o t)(i:∀ O H Q,t' O H Q->t O H Q):PO X o t':=fun pins s O H Q I q=>h pins s O H Q I (i O H Q q)
def yG:FO:=fun _ s=>.ok none s
def uu(f:FE):FO:=fun Z s=>(f Z s).bind fun d s1=>match d with | .int i=>.ok (some i) s1 | _=>.no
theorem vc:RO X E none yG:=zd6 za5 fun O H Q ⟨Y,Z,s,r,en,h⟩=>h.here (b:=none) r rfl
theorem wQ{f:FE}(h:RE X E e f):RO X E (some e) (uu f):=zd6 (zeQ h) fun O H Q ⟨Y,Z,s,r,en,h⟩=>by
 refine ya (k:=fun Z d s1=>match d with | .int i=>.ok (some i) s1 | _=>.no) r en h _ fun v H1 Y1 s1 d r1 en1 dn stp h1=>?_;cases d with
 | int i=>cases yd dn;exact ⟨i,rfl,h1.here (b:=some i) r1 rfl⟩ | _=>exact h1.elim
def cutD(xs:List D)(lo hi:Option Int):List D:=(xs.drop (HT.sIx xs.length 0 lo)).take (HT.sIx xs.length xs.length hi-HT.sIx xs.length 0 lo)
theorem z40{mg:Gm}{H:Hp}{Y:List Addr}{xs:List D}{vs:List V}(h:zA mg H Y xs vs)(lo hi:Option Int):zA mg H Y (cutD xs lo hi) (zd3 vs lo hi):=by
 unfold cutD zd3;rw [h.length];exact (h.drop _).take _
def dSl(x:D)(lo hi:Option Int)(s:Sto):R D:=match x with
 | .tup xs=>.ok (.tup (cutD xs lo hi)) s | x=>match listOf s x with | some xs=>.ok (.lst (cutD xs lo hi)) s | none=>.no
def eSl(fe:FE)(fl fh:FO):FE:=fun Z s=>(fe Z s).bind fun x s1=>(fl Z s1).bind fun lo s2=>(fh Z s2).bind fun hi s3=>dSl x lo hi s3
theorem z6Y{α β:Type}{Dn:Hp->List Addr->α->β->Prop}{mg:Gm}{f:FO}{k:Ev->Option Int->Sto->R α}{O:L2.St}{H:Hp}{Q:β->Hp->Prop}{Y:List Addr}{Z:Ev}{s:Sto}(r:Rep mg H Y s)(en:ux mg H Y Z O) (h:okR mg E H Y Dn ((f Z s).bind (k Z)) Q)(K:Option Int->Hp->Prop) (hK:∀ v H1 Y1 s1,Rep mg H1 Y1 s1->ux mg H1 Y1 Z O->wl mg H Y H1 Y1 s1->okR mg E H1 Y1 Dn (k Z v s1) Q->K v H1):tO mg E f O H K:= ⟨Y,Z,s,r,en,(okR.bind (Dn:=oD) h).imp fun v H1 ⟨Y1,s1,d,stp,dn,q⟩=>hK v H1 Y1 s1 stp.rep (en.mono stp) stp (by cases (show d=v from dn);exact q)⟩
theorem xL{lo hi:Option Expr}{p2:Pos}{fe:FE}{fl fh:FO}(he:RE X E e fe)(hl:RO X E lo fl)(hh:RO X E hi fh):RE X E (.Subscript e (.Slice lo hi none p2) pos) (eSl fe fl fh):= zN (z7O ((zgq.or zfm).or zdU.freeze) he hl hh) fun O H Q ⟨Y,Z,s,r,en,h⟩=>by
  refine ya (k:=fun Z x s1=>(fl Z s1).bind fun lo s2=>(fh Z s2).bind fun hi s3=>dSl x lo hi s3) r en h _ fun v H1 Y1 s1 d r1 en1 dn stp h1=>?_;refine z6Y (k:=fun Z lo s2=>(fh Z s2).bind fun hi s3=>dSl d lo hi s3) r1 en1 h1 _ fun lo H2 Y2 s2 r2 en2 stp2 h2=>?_;refine z6Y (k:=fun Z hi s3=>dSl d lo hi s3) r2 en2 h2 _ fun hi H3 Y3 s3 r3 en3 stp3 h3=>?_;have dn3:=(dn.mono stp2).mono stp3;cases d with
  | tup xs=>
   obtain ⟨a,vs,rfl,q1,q2⟩:=uh (K:=X.K) dn3;have h3':okR (gm X) E H3 Y3 (Den (gm X)) (.ok (.tup (cutD xs lo hi)) s3) Q:=h3;by_cases hw:HT.sIx vs.length 0 lo=0/\HT.sIx vs.length vs.length hi=vs.length
   ·refine .inl (.inr ⟨a,vs,rfl,q1,hw,?_⟩);have e:cutD xs lo hi=xs:=by
     unfold cutD;rw [<- q2.length,hw.1,hw.2];simp [q2.length]
    rw [e] at h3';exact h3'.here r3 dn3
   ·exact .inl (.inl ⟨a,vs,rfl,q1,hw,z0J r3 h3' (z40 q2 lo hi)⟩) | lst xs=>
   obtain ⟨a,vs,rfl,q1,q2⟩:=zM (d:=.lst xs) r3 rfl dn3;exact .inr ⟨a,vs,rfl,.inl q1,uA r3 h3 (z40 q2 lo hi)⟩ | loc l=>
   simp only [dSl] at h3;split at h3
   ·rename_i xs e;obtain ⟨a,vs,rfl,q1,q2⟩:=zM (d:=.loc l) r3 e dn3;exact .inr ⟨a,vs,rfl,.inl q1,uA r3 h3 (z40 q2 lo hi)⟩
   ·exact h3.elim | _=>exact h3.elim
end
abbrev Mir:=List D->Sto->R D
def zcZ(mg:Gm)(M:Mir):Sp:=fun vs H Q E=>∃ Y s ds,Rep mg H Y s/\zA mg H Y ds vs/\okR mg E H Y (Den mg) (M ds s) Q
def Has(P:Program)(w:World)(K:W.Frag)(mg:Str->Option Value)(base:Heap)(CX:CXT)(x:Str)(n:Nat)(M:Mir):Prop:= ∃ f fd ps,z47 P w K mg base CX n f fd ps (zcZ ⟨mg,K⟩ M)/\Binds K fd ps []/\W.keepIn K (.ref f)=true/\mg x=some (.ref f)
section
variable {X:Cx}{E:XK}{e a b c:Expr}{es:List Expr}{pos:Pos}{CX:CXT}
theorem zb4 {x:Str} {p:Pos} {n:Nat} {M:Mir} {f:FA} (F:Has X.prog X.w X.K X.mg X.base CX x n M) (hr:z0k n X.A) (hx:Passes CX X E) (hg:Gl X x) (ha:RA X E (e::es) f) (hdb:(x==("__debug__":Str))=false:=by decide) (he:starEach (e::es) X.env=(false,eval e X.env)::starEach es X.env:=by rfl) (hpl:(backTo pos (starEach es X.env)).any (·.1)=false:=by rfl):RE X E (.Call (.Name x p) (e::es) [] pos) (ze M f):=by
 obtain ⟨fa,fd,ps,F,hb,hk,hm⟩:=F;refine zN (zeb F hr hg hm hk hb .nil hx ha hdb he hpl) fun O H Q ⟨Y,Z,s,r,en,h⟩=>?_;refine um (k:=fun Z xs s1=>M xs s1) r en h _ fun vs H2 Y2 s2 ds r2 en2 dn2 stp2 h3=>?_;rw [_a8];exact ⟨Y2,s2,ds,r2,dn2,h3⟩
def zy(f g:FS):FS:=fun Z s=>(f Z s).bind fun fl s1=>match fl with | .nx Z'=>g Z' s1 | fl=>.ok fl s1
def xo:FS:=fun Z s=>.ok (.nx Z) s
variable {st:Stmt}{rs:List Stmt}
theorem zgL {mg:Gm} {f g:FS} {D:zeG} {O:L2.St} {H:Hp} (h:tS mg E (zy f g) D O H):zjk (tS mg E f) (tS mg E g) D O H:=by
 obtain ⟨Y,Z,s,r,en,h⟩:=h;refine ⟨Y,Z,s,r,en,(okR.bind (Dn:=FlD mg) h).imp fun fv H1 ⟨Y1,s1,fl,stp,dn,q⟩=>?_⟩;cases fl with
 | nx Z'=> cases fv with
  | nx O'=>exact ⟨Y1,Z',s1,stp.rep,dn,q⟩ | _=>exact (show False from dn).elim
 | rt d=> cases fv with
  | rt v=>exact okR.here (b:=FlV.rt v) (Q:=z2T D) (s:=s1) (a:=Fl.rt d) q stp.rep dn | _=>exact (show False from dn).elim
 | bk Z'=> cases fv with
  | bk v=>exact okR.here (b:=FlV.bk v) (Q:=z2T D) (s:=s1) (a:=Fl.bk Z') q stp.rep dn | _=>exact (show False from dn).elim
 | ct Z'=> cases fv with
  | ct v=>exact okR.here (b:=FlV.ct v) (Q:=z2T D) (s:=s1) (a:=Fl.ct Z') q stp.rep dn | _=>exact (show False from dn).elim
theorem yj:RSs X E [] xo:=zav ze1 fun D O H ⟨Y,Z,s,r,en,h⟩=>okR.here (b:=FlV.nx O) h r en
theorem zf{f g:FS}(h1:RS X E st f)(h2:RSs X E rs g):RSs X E (st::rs) (zy f g):=zav (zbq h1 h2) fun D O H h=>zgL h
theorem zk{f:FS}(h1:RS X E st f):RSs X E [st] f:=ze0 h1
def fNo:FS:=fun _ _=>.no
theorem z6q:RS X E st fNo:=vQ zbB fun D O H ⟨_,_,_,_,_,h⟩=>h
def vm(f:FE):FS:=fun Z s=>(f Z s).bind fun _ s1=>.ok (.nx Z) s1
theorem vd {f:FE} (he:RE X E e f) (hs:swapsWith e none pos.line X.env=pure false:=by rfl):RS X E (.Expr e pos) (vm f):= vQ (zeO he hs) fun D O H ⟨Y,Z,s,r,en,h⟩=>ya (k:=fun Z _ s1=>R.ok (Fl.nx Z) s1) r en h _ fun v H1 Y1 s1 d r1 en1 dn stp h1=>okR.here (b:=FlV.nx O) (Q:=z2T D) h1 r1 en1
def wx(f:FE):FS:=fun Z s=>(f Z s).bind fun d s1=>.ok (.rt d) s1
theorem zV {f:FE} (he:RE X E e f):RS X E (.Return (some e) pos) (wx f):= vQ (zg8 he) fun D O H ⟨Y,Z,s,r,en,h⟩=>ya (k:=fun Z d s1=>R.ok (Fl.rt d) s1) r en h _ fun v H1 Y1 s1 d r1 en1 dn stp h1=>okR.here (b:=FlV.rt v) (Q:=z2T D) h1 r1 dn
def fIf(ft:FT)(f g:FS):FS:=fun Z s=>(ft Z s).bind fun x s1=>if x=true then f Z s1 else g Z s1
theorem jI{ft:FT}{f g:FS}{as bs:List Stmt}(hc:RT X E c ft)(ha:RSs X E as f)(hb:RSs X E bs g):RS X E (.If c as bs pos) (fIf ft f g):= vQ (zj5 hc ha hb) fun D O H ⟨Y,Z,s,r,en,h⟩=>z1V (k:=fun Z x s1=>if x=true then f Z s1 else g Z s1) r en h _ fun v H1 Y1 s1 r1 en1 stp h1=>by cases v with
  | true=>rw [_d rfl] at h1 ⊢;exact ⟨Y1,Z,s1,r1,en1,h1⟩ | false=>rw [_o (by decide)] at h1 ⊢;exact ⟨Y1,Z,s1,r1,en1,h1⟩
abbrev FG:=D->Ev->Sto->R Ev
def tG(mg:Gm)(E:XK)(f:FG):TG:=fun v O H Q=>∃ Y Z s d,Rep mg H Y s/\ux mg H Y Z O/\Den mg H Y d v/\okR mg E H Y (ux mg) (f d Z s) (fun O' H'=>Q O' H')
def RG(X:Cx)(E:XK)(tg:Expr)(f:FG):Prop:=PG X tg (tG (gm X) E f)
theorem zcN{tg:Expr}{t t':TG}(h:PG X tg t)(i:∀ v O H Q,t' v O H Q->t v O H Q):PG X tg t':=fun pins s O H v u Q I r q=>h pins s O H v u Q I r (i v O H Q q)
def vw(i:Nat):FG:=fun d Z s=>.ok (Z.set i (some d)) s
theorem z2y(i:Nat){x:Str}(hN:X.N.Nodup)(hi:X.N[i]? = some x:=by rfl)(hx:Loc X.env.scope x:=by first | exact Or.inl rfl | exact Or.inr rfl)(hf:X.fn x=true\/X.env.scope.names.lookup x=some .local:=by first | exact .inl rfl | exact .inr rfl | assumption):RG X E (.Name x pos) (vw i):= zcN (yQ hN hi hx hf) fun v O H Q ⟨Y,Z,s,d,r,en,dn,h⟩=>okR.here (b:=O.set i (some v)) h r (en.set dn i)
def wz(i j:Nat):FG:=fun d Z s=>match d with | .tup [x,y]=>.ok ((Z.set i (some x)).set j (some y)) s | _=>.no
theorem z0u(i j:Nat){x y:Str}{px py:Pos}{kt:Nat}(hc:X.calm=true)(hN:X.N.Nodup)(hi:X.N[i]? = some x:=by rfl)(hj:X.N[j]? = some y:=by rfl)(hx:Loc X.env.scope x:=by first | exact Or.inl rfl | exact Or.inr rfl)(hy:Loc X.env.scope y:=by first | exact Or.inl rfl | exact Or.inr rfl) (hf:X.fn x=true\/X.env.scope.names.lookup x=some .local:=by first | exact .inl rfl | exact .inr rfl | assumption)(hf':X.fn y=true\/X.env.scope.names.lookup y=some .local:=by first | exact .inl rfl | exact .inr rfl | assumption): RG X E (.Tuple [.Name x px,.Name y py] kt pos) (wz i j):= zcN (zdx hc (z1u (yQ hN hi hx hf) (z1u (yQ hN hj hy hf') zaL))) fun v O H Q ⟨Y,Z,s,d,r,en,dn,h⟩=>by
  unfold wz at h;split at h
  ·rename_i d1 d2;obtain ⟨p,vs,rfl,q1,q2⟩:=uh (K:=X.K) dn;obtain ⟨v1,v2,rfl,e1,e2⟩:=z4U q2;exact ⟨p,[v1,v2],rfl,q1,rfl,v1,[v2],rfl,v2,[],rfl,rfl,okR.here h r ((en.set e1 i).set e2 j)⟩
  ·exact h.elim
def xY(i:Nat)(f:FE):FS:=fun Z s=>(f Z s).bind fun d s1=>.ok (.nx (Z.set i (some d))) s1
theorem ye (i:Nat) {x:Str} {pos':Pos} {f:FE} (hN:X.N.Nodup) (he:RE X E e f) (hi:X.N[i]? = some x:=by rfl) (hx:Loc X.env.scope x:=by first | exact Or.inl rfl | exact Or.inr rfl) (hs:swapsWith e (some (.Name x pos')) pos.line X.env=pure false:=by rfl) (hf:X.fn x=true\/X.env.scope.names.lookup x=some .local:=by first | exact .inl rfl | exact .inr rfl | assumption):RS X E (.Assign [.Name x pos'] e pos) (xY i f):= vQ (zho hN hi hx he hs hf) fun D O H ⟨Y,Z,s,r,en,h⟩=>ya (k:=fun Z d s1=>R.ok (Fl.nx (Z.set i (some d))) s1) r en h _ fun v H1 Y1 s1 d r1 en1 dn stp h1=>okR.here (b:=FlV.nx (O.set i (some v))) (Q:=z2T D) h1 r1 (en1.set dn i)
def zcM(f:FE)(g:FG):FS:=fun Z s=>(f Z s).bind fun d s1=>(g d Z s1).bind fun Z' s2=>.ok (.nx Z') s2
theorem z6m {tg:Expr} {f:FE} {g:FG} (he:RE X E e f) (hg:RG X E tg g) (hs:swapsWithSole [tg] e pos.line X.env=pure false:=by rfl) (hw:swappedStores [tg] e X.env=pure none:=by rfl) (h1:(assignEach [tg] X.env).map (·.2)=[assign tg X.env]:=by rfl):RS X E (.Assign [tg] e pos) (zcM f g):= vQ (zdj he hg hs hw h1) fun D O H ⟨Y,Z,s,r,en,h⟩=>ya (k:=fun Z d s1=>(g d Z s1).bind fun Z' s2=>R.ok (Fl.nx Z') s2) r en h _ fun v H1 Y1 s1 d r1 en1 dn stp h1=> ⟨Y1,Z,s1,d,r1,en1,dn,(okR.bind (Dn:=ux (gm X)) h1).imp fun O' H' ⟨Y2,s2,Z',stp2,en2,q⟩=>okR.here (b:=FlV.nx O') (Q:=z2T D) q stp2.rep en2⟩
def zj2(i j:Nat)(f:FA):FS:=fun Z s=>(f Z s).bind fun ds s1=>match ds with | [x,y]=>.ok (.nx ((Z.set i (some x)).set j (some y))) s1 | _=>.no
theorem zj0 (i j:Nat) {x y:Str} {px py pt:Pos} {kt k2:Nat} {pt2:Pos} {f:FA} (hc:X.calm=true) (hN:X.N.Nodup) (ha:RA X E [a,b] f) (hi:X.N[i]? = some x:=by rfl) (hj:X.N[j]? = some y:=by rfl) (hij:i≠j:=by decide) (hx:X.env.scope.names.lookup x=some .local:=by rfl) (hy:X.env.scope.names.lookup y=some .local:=by rfl) (hw:swappedStores [.Tuple [.Name x px,.Name y py] kt pt] (.Tuple [a,b] k2 pt2) X.env=pure (some [x,y]):=by rfl) (hs:swapsWithSole [.Tuple [.Name x px,.Name y py] kt pt] (.Tuple [a,b] k2 pt2) pos.line X.env=pure false:=by rfl): RS X E (.Assign [.Tuple [.Name x px,.Name y py] kt pt] (.Tuple [a,b] k2 pt2) pos) (zj2 i j f):= vQ (zgF hc hN hi hj hij hx hy ha hw hs) fun D O H ⟨Y,Z,s,r,en,h⟩=>by
  refine um (k:=fun Z ds s1=>match ds with | [x,y]=>R.ok (Fl.nx ((Z.set i (some x)).set j (some y))) s1 | _=>.no) r en h _ fun vs H1 Y1 s1 ds r1 en1 dn stp h1=>?_;match ds,dn,h1 with
  | [],_,h1=>exact h1.elim | [_],_,h1=>exact h1.elim | _::_::_::_,_,h1=>exact h1.elim | [d1,d2],dn,h1=>
   obtain ⟨v1,v2,rfl,e1,e2⟩:=z4U dn;exact ⟨v1,v2,rfl,okR.here (b:=FlV.nx ((O.set i (some v1)).set j (some v2))) (Q:=z2T D) h1 r1 ((en1.set e1 i).set e2 j)⟩
def z2U(fo fi fv:FE):FS:=fun Z s=>(fv Z s).bind fun d s1=>(fo Z s1).bind fun o s2=>(fi Z s2).bind fun i s3=>match o,i with
 | .loc l,.int k=>match s3[l]? with
  | some xs=>match ixN xs.length k with
   | some j=>if d.flat=true then .ok (.nx Z) (s3.set l (xs.set j d)) else .no | none=>.no
  | none=>.no
 | _,_=>.no
theorem z53:∀ {xs:List D}{d:D}{j:Nat},D.flat.flats xs=true->d.flat=true->D.flat.flats (xs.set j d)=true
 | [],_,_,_,_=>rfl | x::xs,d,0,h,hd=>by
  simp only [D.flat.flats,_D,_ab] at h ⊢;exact ⟨hd,h.2⟩ | x::xs,d,j+1,h,hd=>by
  simp only [D.flat.flats,_D,_ac] at h ⊢;exact ⟨h.1,z53 h.2 hd⟩
theorem z0Z:∀ {xs ys:List D},D.flat.flats xs=true->D.flat.flats ys=true->D.flat.flats (xs++ys)=true
 | [],_,_,h=>h | x::xs,ys,h,h'=>by
  simp only [D.flat.flats,_D,List.cons_append] at h ⊢;exact ⟨h.1,z0Z h.2 h'⟩
theorem z3o {o i:Expr} {p1:Pos} {fo fi fv:FE} (hv:RE X E e fv) (ho:RE X E o fo) (hi:RE X E i fi) (ha:∀ v,assign (.Subscript o i p1) X.env v=(do
   let ov <- holding [v] (eval o X.env) let iv <- holding [v,ov] (eval i X.env)
   standAt p1
   holding [v,ov,iv] (setItem ov iv v)
   release [v,ov,iv] []):=by intro _;rfl) (hs:swapsWithSole [.Subscript o i p1] e pos.line X.env=pure false:=by rfl) (hw:swappedStores [.Subscript o i p1] e X.env=pure none:=by rfl) (h1:(assignEach [.Subscript o i p1] X.env).map (·.2)=[assign (.Subscript o i p1) X.env]:=by rfl):RS X E (.Assign [.Subscript o i p1] e pos) (z2U fo fi fv):= vQ (zdj hv (zfD ho hi set_list ha) hs hw h1) fun D O H ⟨Y,Z,s,r,en,h⟩=>by
  unfold z2U at h;refine ⟨Y,Z,s,r,en,(okR.bind (Dn:=Den (gm X)) h).imp fun v H1 ⟨Y1,s1,d,stp,dn,h1⟩=>?_⟩;refine ⟨Y1,Z,s1,stp.rep,en.mono stp,(okR.bind (Dn:=Den (gm X)) h1).imp fun ov H2 ⟨Y2,s2,od,stp2,dn2,h2⟩=>?_⟩;refine ⟨Y2,Z,s2,stp2.rep,(en.mono stp).mono stp2,(okR.bind (Dn:=Den (gm X)) h2).imp fun iv H3 ⟨Y3,s3,id,stp3,dn3,h3⟩=>?_⟩;have en3:=((en.mono stp).mono stp2).mono stp3;have dv:=(dn.mono stp2).mono stp3;have dov:=dn2.mono stp3;cases od with
  | loc l=> cases id with
   | int k=>
    simp only at h3;split at h3
    ·rename_i xs ex;split at h3
     ·rename_i j ej;split at h3
      ·rename_i hf;cases yd dn3;simp only [Den] at dov;obtain ⟨a,rfl,e1,ka⟩:=dov;obtain ⟨vs,q1,q2⟩:=stp3.rep.at_ ex e1 ka;have stp4:=wl.put (l:=l) (xs:=xs.set j d) stp3.rep e1 ka (q2.set j dv) (z53 (stp3.rep.flat xs (_y ex)) hf);exact ⟨a,vs,k,j,rfl,rfl,q1,by rw [q2.length];exact ej,h3 (.nx O) _ _ stp4 (en3.mono stp4)⟩
      ·exact h3.elim
     ·exact h3.elim
    ·exact h3.elim | _=>exact h3.elim
  | _=>exact h3.elim
def zai(fo fv:FE):FE:=fun Z s=>(fo Z s).bind fun o s1=>match o with
 | .loc l=>(fv Z s1).bind fun d s2=>match s2[l]? with
  | some xs=>if d.flat=true/\xs.length<cap then .ok .non (s2.set l (xs++[d])) else .no | none=>.no
 | _=>.no
theorem jC {o:Expr} {apos:Pos} {fo fv:FE} (ho:RE X E o fo) (hv:RE X E e fv) (hbase:attributeBase o "append" X.env (eval o X.env)=eval o X.env:=by rfl) (hfew:((backTo pos (starEach [e] X.env)).all (fun x=>!x.1)&&(backToKw pos (keywordEach [] X.env)).all (fun x=>x.1.isSome) && decide ([e].length+([]:List Keyword).length+(if ([]:List Keyword).isEmpty then 0 else 1)<30))=true:=by rfl) (hline:(apos.endLine==pos.line)=true:=by rfl) (hs:starEach [e] X.env=(false,eval e X.env)::starEach [] X.env:=by rfl) (hplain:(backTo pos (starEach [] X.env)).any (·.1)=false:=by rfl): RE X E (.Call (.Attribute o "append" apos) [e] [] pos) (zai fo fv):= zN (zfe _bx PySem.F.slot_list_append PySem.F.type_list_append zas ho (xM hv jc hs) hbase hfew hline hs hplain) fun O H Q ⟨Y,Z,s,r,en,h⟩=>by
  unfold zai at h;refine ⟨Y,Z,s,r,en,(okR.bind (Dn:=Den (gm X)) h).imp fun ov H1 ⟨Y1,s1,od,stp,dn,h1⟩=>?_⟩;cases od with
  | loc l=>
   simp only at h1;have hty:tyV X.K "list" ov H1:=by
    simp only [Den] at dn;obtain ⟨a,rfl,e1,vs,e2⟩:=dn;exact .inl ⟨rfl,vs,.inl (.inl e2)⟩
   refine ⟨hty,⟨Y1,Z,s1,stp.rep,en.mono stp,(okR.bind (Dn:=Den (gm X)) h1).imp fun v H2 ⟨Y2,s2,d,stp2,dn2,h2⟩=>?_⟩⟩;split at h2
   ·rename_i xs ex;split at h2
    ·rename_i hf;have dov:=dn.mono stp2;simp only [Den] at dov;obtain ⟨a,rfl,e1,ka⟩:=dov;obtain ⟨vs,q1,q2⟩:=stp2.rep.at_ ex e1 ka;have stp3:=wl.put (l:=l) (xs:=xs++[d]) stp2.rep e1 ka (q2.append (zA.one dn2)) (z0Z (stp2.rep.flat xs (_y ex)) (by simp [D.flat.flats,hf.1]));refine ⟨a,vs,v,rfl,rfl,q1,by rw [q2.length];exact zhl hf.2,h2 .non _ _ stp3 (by simp [Den])⟩
    ·exact h2.elim
   ·exact h2.elim | _=>exact h1.elim
end
end Dd
namespace L2
theorem zgX{X:Cx}{tg l:Expr}{tl:TE}(hl:PE X l tl):PI X tg l (fun O H R=>tl O H fun x H1=>∃ a,x=.ref a/\(((∃ xs,SqL X.K H1 a xs)/\R (Itl X.K a) H1)\/((∃ xs,SqT X.K H1 a xs)/\R (Itt X.K a) H1))):=by
 intro pins s O H R I h;refine thn (hl pins s O H _ I h) fun v s1 ⟨x,H1,I1,r1,q1⟩=>?_;obtain ⟨a,e,q⟩:=q1;subst e;cases r1;rcases q with ⟨⟨xs,hq⟩,q⟩ | ⟨⟨xs,hq⟩,q⟩
 ·obtain ⟨its,rv,p,hz⟩:=I1.list hq;refine wpAny_pyIter_list p.isList ?_;refine ⟨s1.heap.objs.size,[s1.heap.objs.size],_,_,H1,rfl,I1.kept (t':=s1.toks) fun b o e=>_b _ e,zao a _,⟨_,_n _ rfl,rfl,rfl⟩,fun b hb=>?_,q⟩;have e:b=s1.heap.objs.size:=by simpa using hb
  subst e;exact I1.fpOk (_j _) (I1.hok.fresh (_j _))
 ·obtain ⟨its,rv,p,hz⟩:=I1.tuple hq;refine wpAny_pyIter_tuple (show s1.heap.IsTuple a its.toArray from p) ?_;refine ⟨s1.heap.objs.size,[s1.heap.objs.size],_,_,H1,rfl,I1.kept (t':=s1.toks) fun b o e=>_b _ e,z97 a _,⟨_,_n _ rfl,rfl,rfl⟩,fun b hb=>?_,q⟩;have e:b=s1.heap.objs.size:=by simpa using hb
  subst e;exact I1.fpOk (_j _) (I1.hok.fresh (_j _))
theorem kI.freeze{X:Cx}{pins:List (Addr×Obj)}{O:L2.St}{C:Addr}{Q:VK}{acc:Value}{s':Shared}(h:kI X pins O C (zbh Q) acc s'):kI X pins O C Q acc s':=by
 obtain ⟨v,Hf,I,r,⟨a,xs,rfl,ha,q⟩,hm,f⟩:=h;obtain ⟨its,n,rv,e,_⟩:=I.lst ha;refine ⟨_,_,I.freeze ha e (by intro _ z;cases z) (by intro _ _ z;cases z) (by intro _ z;cases z) (by intro _ z;cases z),r,q _,hm,?_,f.2⟩;rw [zE (fun z=>by have:=f.1;rw [z,ha] at this;cases this)];exact f.1
theorem z6v {X:Cx} {tg iter elt:Expr} {ifs:List Expr} {scope:Scope} {pos spos py:Pos} {wi:TI} {g:TG} {ti:TT} {te:TE} {i:Nat} {y:Str} (N':List Str) (mp:List (Option Nat)) (hN:X.N.Nodup) (hy:X.N[i]? = some y) (hyl:Loc X.env.scope y) (hc:X.calm=true) (hi:PI X tg iter wi) (hg:∀ ex s H,PG (zw X N' scope ex s H) tg g) (ht:∀ ex s H,z4S (zw X N' scope ex s H) ifs ti) (he:∀ ex s H,PE (zw X N' scope ex s H) elt te) (hkd:scope.kind=.function) (hnm:∀ y∈scope.names,scope.names.lookup y.1=some y.2) (hfr:∀ y∈scope.names,y.2=.free->X.env.kindOf y.1=some .cell\/X.env.kindOf y.1=some .free) (hmp:z1n X.N scope.names N' mp=true) (hs:∀ x,foldedSetIterable iter X.env x=pure x:=by intro _;rfl) (hsw:swapsWith (.ListComp elt [⟨tg,iter,ifs,0⟩] scope pos) (some (.Name y py)) spos.line X.env=pure true:=by rfl) (hf:X.fn y=true\/X.env.scope.names.lookup y=some .local:=by first | exact .inl rfl | exact .inr rfl | assumption): PS X (.Assign [.Name y py] (.ListComp elt [⟨tg,iter,ifs,0⟩] scope pos) spos) (fun D O H=>zb9 wi mp g ti te O H (zbh fun v H'=>D.nx (O.set i (some v)) H')):=by
 intro pins s O H D I h;rw [exec_Assign_Name_used _ _ _ _ hsw];refine _a (_bn (_a ?_));show wpAny _ X.A (do let _ <- comprehension (.ListComp elt [⟨tg,iter,ifs,0⟩] scope pos) scope X.env _ (newList []) false (eval iter X.env) (some (assign (.Name y py) X.env))) _ _ s;refine _a (_x (_aV (use:=some (assign (.Name y py) X.env)) (Q:=fun _ s'=>SP X pins D .next s') rfl hs (vp fun y hy hf=>I.ok.has _ (hfr y hy hf)) hkd (fun y hy hl=>by rw [hnm y hy,hl]) (thn (hi pins s O H _ I h) fun xv s₁ h₁=>thn h₁ fun itv s₂ h₂=>?_)) (fun _ s' hq=>_g (_g hq)) fun _ _ e=>e);obtain ⟨it,fp,tn,J,H2,e,I2,T,st2,f2,W,w0,turn⟩:=h₂;subst e;refine z0g (N':=N') (mp:=mp) (O:=O) (pins:=pins) (Q:=zbh fun v H'=>D.nx (O.set i (some v)) H') (RR:=fun acc C=>compPost (model X.prog X.w) X.A X.xe (some (assign (.Name y py) X.env)) (fun _ s'=>SP X pins D .next s') acc C) hc hg ht he hkd hnm hfr hmp I2 T st2 f2 W w0 turn ?_;intro acc C s' hd;obtain ⟨v,Hf,I3,r,q,⟨m,hm⟩,f⟩:=hd.freeze;refine _cp (z2i I3 hN hy hyl r (fun s'' I4 ⟨a,sb,ha⟩=>?_) hf);have hC:C≠a:=by
  rcases ha with z | z;·rw [z];exact f.2.1
  ·exact _aE (f.2.2.2.2.1 y a z)
 exact ⟨m,hm.sameBut sb hC,fun h' sb'=>⟨_,Hf,qC I4 f sb',q⟩⟩
end L2
namespace Dd
open L2
abbrev ItD:=List D×List (Nat×List D)
def okG(g:List (Nat×List D))(all:List D)(s:Sto):Prop:=∀ p∈g,s[p.1]? = some p.2
def zf3(mg:Gm)(H0:Hp)(Y0:List Addr)(a:ItD)(J:It):Prop:=∀ H Y s,wl mg H0 Y0 H Y s->okG a.2 a.1 s->∀ i:Nat, (∀ d,a.1[i]? = some d->J.go i H/\∀ x H',J.yld i H x H'->∃ Y',wl mg H Y H' Y' s/\Den mg H' Y' d x)/\(a.1.length<=i->J.stop i H)
abbrev FI:=Ev->Sto->R ItD
def tI(mg:Gm)(E:XK)(f:FI):TI:=fun O H Rr=>∃ Y Z s,Rep mg H Y s/\ux mg H Y Z O/\okR mg E H Y (zf3 mg) (f Z s) Rr
def RI(X:Cx)(E:XK)(tg it:Expr)(f:FI):Prop:=PI X tg it (tI (gm X) E f)
section
variable {X:Cx}{E:XK}{e a b c tg:Expr}{es:List Expr}{pos:Pos}{CX:CXT}
theorem z51{it:Expr}{t t':TI}(h:PI X tg it t)(i:∀ O H Q,t' O H Q->t O H Q):PI X tg it t':=fun pins s O H Q I q=>h pins s O H Q I (i O H Q q)
def wU(f:FE):FI:=fun Z s=>(f Z s).bind fun d s1=>match d with
 | .tup xs=>.ok (xs,[]) s1 | .lst xs=>.ok (xs,[]) s1 | .loc l=>match s1[l]? with | some xs=>.ok (xs,[(l,xs)]) s1 | none=>.no
 | _=>.no
theorem z1i{f:FE}(h:RE X E e f):RI X E tg e (wU f):=z51 (zgX h) fun O H Q ⟨Y,Z,s,r,en,h⟩=>by
 unfold wU at h;refine ⟨Y,Z,s,r,en,(okR.bind (Dn:=Den (gm X)) h).imp fun v H1 ⟨Y1,s1,d,stp,dn,h1⟩=>?_⟩;have lst:∀ (a:Addr)(xs:List D)(g:List (Nat×List D)),(∀ H2 Y2 s2,wl (gm X) H1 Y1 H2 Y2 s2->okG g xs s2->∃ ws,SqL X.K H2 a ws/\zA (gm X) H2 Y2 xs ws)->zf3 (gm X) H1 Y1 (xs,g) (Itl X.K a):=fun a xs g hq H2 Y2 s2 stp2 hg i=>by
  obtain ⟨ws,q1,q2⟩:=hq H2 Y2 s2 stp2 hg;refine ⟨fun d hd=>?_,fun hl=>⟨ws,q1,by rw [q2.length];exact hl⟩⟩;obtain ⟨v,e1,e2⟩:=q2.get hd;refine ⟨⟨ws,v,q1,e1⟩,fun x H' ⟨e3,y⟩=>?_⟩;subst e3;have e4:=y ws q1;rw [e1] at e4;cases e4;exact ⟨Y2,.refl stp2.rep,e2⟩
 have tup:∀ (a:Addr)(xs:List D),(∀ H2 Y2 s2,wl (gm X) H1 Y1 H2 Y2 s2->∃ ws,SqT X.K H2 a ws/\zA (gm X) H2 Y2 xs ws)->zf3 (gm X) H1 Y1 (xs,[]) (Itt X.K a):=fun a xs hq H2 Y2 s2 stp2 hg i=>by
  obtain ⟨ws,q1,q2⟩:=hq H2 Y2 s2 stp2;refine ⟨fun d hd=>?_,fun hl=>⟨ws,q1,by rw [q2.length];exact hl⟩⟩;obtain ⟨v,e1,e2⟩:=q2.get hd;refine ⟨⟨ws,v,q1,e1⟩,fun x H' ⟨e3,y⟩=>?_⟩;subst e3;have e4:=y ws q1;rw [e1] at e4;cases e4;exact ⟨Y2,.refl stp2.rep,e2⟩
 cases d with
 | tup xs=>
  have h1':okR (gm X) E H1 Y1 (zf3 (gm X)) (.ok (xs,[]) s1) Q:=h1;obtain ⟨a,vs,rfl,q1,q2⟩:=uh (K:=X.K) dn;refine ⟨a,rfl,.inr ⟨⟨vs,q1⟩,h1'.here stp.rep (tup a xs fun H2 Y2 s2 stp2=>?_)⟩⟩;have dn2:=dn.mono stp2;obtain ⟨a',ws,e,q3,q4⟩:=uh (K:=X.K) dn2;cases e;exact ⟨ws,q3,q4⟩ | lst xs=>
  have h1':okR (gm X) E H1 Y1 (zf3 (gm X)) (.ok (xs,[]) s1) Q:=h1;obtain ⟨a,vs,rfl,q1,q2⟩:=zM (d:=.lst xs) stp.rep rfl dn;refine ⟨a,rfl,.inl ⟨⟨vs,.inl q1⟩,h1'.here stp.rep (lst a xs [] fun H2 Y2 s2 stp2 _=>?_)⟩⟩;obtain ⟨a',ws,e,q3,q4⟩:=zM (d:=.lst xs) stp2.rep rfl (dn.mono stp2);cases e;exact ⟨ws,.inl q3,q4⟩ | loc l=>
  simp only at h1;split at h1
  ·rename_i xs ex;obtain ⟨a,vs,rfl,q1,q2⟩:=zM (d:=.loc l) stp.rep ex dn;refine ⟨a,rfl,.inl ⟨⟨vs,.inl q1⟩,h1.here stp.rep (lst a xs [(l,xs)] fun H2 Y2 s2 stp2 hg=>?_)⟩⟩;obtain ⟨a',ws,e,q3,q4⟩:=zM (d:=.loc l) stp2.rep (hg (l,xs) (by simp)) (dn.mono stp2);cases e;exact ⟨ws,.inl q3,q4⟩
  ·exact h1.elim | _=>exact h1.elim
end
section
variable {X:Cx}{E:XK}{e a b c tg:Expr}{es:List Expr}{pos:Pos}{CX:CXT}
def xO(n:Nat):List D:=(List.range n).map fun (k:Nat)=>D.int ((k:Nat):Int)
def z2K(f:FA):FI:=fun Z s=>(f Z s).bind fun ds s1=>match ds with
 | [.int j]=>if -(2 ^ 62)<=j/\j<2 ^ 62 then .ok (xO j.toNat,[]) s1 else .no | _=>.no
theorem wX{p:Pos}{f:FA}(hg:Gl X "range")(hm:X.mg "range"=none)(ha:RA X E [a] f)(hs:starEach [a] X.env=[(false,eval a X.env)]:=by rfl):RI X E tg (.Call (.Name "range" p) [a] [] pos) (z2K f):= z51 (zb7 hg hm ha hs) fun O H Q ⟨Y,Z,s,r,en,h⟩=>by
  unfold z2K at h;refine ⟨Y,Z,s,r,en,(okR.bind (Dn:=zA (gm X)) h).imp fun vs H1 ⟨Y1,s1,ds,stp,dn,h1⟩=>?_⟩;split at h1
  ·rename_i j;split at h1
   ·rename_i hj;obtain ⟨v,rfl,d1⟩:=z0a dn;cases yd d1;refine ⟨j,rfl,hj.1,hj.2,h1.here stp.rep fun H2 Y2 s2 stp2 _ i=>⟨fun d hd=>?_,fun hl=>?_⟩⟩
    ·have hi:i<j.toNat:=by
      have:=(_c.mp hd).1;simpa [xO] using this
     refine ⟨hi,fun x H' ⟨e1,e2⟩=>?_⟩;subst e1 e2;refine ⟨Y2,.refl stp2.rep,?_⟩;have e3:d=D.int i:=by
      simp only [xO,_Z,List.getElem?_range hi,_T,_p] at hd;exact hd.symm
     rw [e3];simp [Den]
    ·have:(xO j.toNat).length=j.toNat:=by simp [xO]
     show j.toNat<=i;rw [<- this];exact hl
   ·exact h1.elim
  ·exact h1.elim
open Classical in
def xG(g:List (Nat×List D))(all:List D)(body:D->Ev->Sto->R Fl):List D->Ev->Sto->R Fl
 | [],Z,s=>if okG g all s then .ok (.nx Z) s else .no | x::xs,Z,s=>if okG g all s then (body x Z s).bind fun fl s1=>match fl with
   | .nx Z'=>xG g all body xs Z' s1 | .ct Z'=>xG g all body xs Z' s1 | .bk Z'=>.ok (.nx Z') s1 | .rt d=>.ok (.rt d) s1 else .no
def z9X(fi:FI)(fg:FG)(fb:FS):FS:=fun Z s=>(fi Z s).bind fun it s1=>xG it.2 it.1 (fun d Z s=>(fg d Z s).bind fun Z' s'=>fb Z' s') it.1 Z s1
theorem z5N {iter:Expr} {body:List Stmt} {fi:FI} {fg:FG} {fb:FS} (hp:PassesOwn (model X.prog X.w) X.A X.env X.xe) (hc:X.calm=true) (hi:RI X E tg iter fi) (hg:RG X E tg fg) (hb:RSs X E body fb) (hs:∀ x,foldedSetIterable iter X.env x=pure x:=by intro _;rfl):RS X E (.For tg iter body [] pos) (z9X fi fg fb):= vQ (zgI hp hc hi hg hb hs) fun D O H ⟨Y,Z,s,r,en,h⟩=>by
  unfold z9X at h;refine ⟨Y,Z,s,r,en,(okR.bind (Dn:=zf3 (gm X)) h).imp fun J H1 ⟨Y1,s1,it,stp,ok,h1⟩=>?_⟩;obtain ⟨items,g⟩:=it;simp only at h1;refine ⟨fun i m O H=>∃ Y Z s,wl (gm X) H1 Y1 H Y s/\ux (gm X) H Y Z O/\m=items.length-i/\i<=items.length/\ okR (gm X) E H Y (FlD (gm X)) (xG g items (fun d Z s=>(fg d Z s).bind fun Z' s'=>fb Z' s') (items.drop i) Z s) (z2T D), ⟨items.length,Y1,Z,s1,.refl stp.rep,en.mono stp,by simp,_aj _,by simpa using h1⟩,?_⟩;rintro i m O H ⟨Y2,Z2,s2,stp2,en2,rfl,hil,h2⟩;by_cases hlt:i<items.length
  ·right;rw [_av hlt,xG] at h2;split at h2
   ·rename_i hG;obtain ⟨go,yl⟩:=((ok H Y2 s2 stp2 hG i).1 items[i] (_f hlt));refine ⟨go,fun O' H'=>∃ Y Z s,wl (gm X) H1 Y1 H' Y s/\ux (gm X) H' Y Z O'/\okR (gm X) E H' Y (FlD (gm X)) (xG g items (fun d Z s=>(fg d Z s).bind fun Z' s'=>fb Z' s') (items.drop (i+1)) Z s) (z2T D), fun O' H' ⟨Y3,Z3,s3,q1,q2,q3⟩=>⟨items.length-(i+1),by omega,Y3,Z3,s3,q1,q2,rfl,hlt,q3⟩,fun x H' y=>?_⟩;obtain ⟨Y3,stp3,dn3⟩:=yl x H' y;have h3:=okR.rebase h2 stp3;have h4:=okR.bind (Dn:=FlD (gm X)) h3;refine ⟨Y3,Z2,s2,items[i],stp3.rep,en2.mono stp3,dn3,(okR.bind (Dn:=ux (gm X)) h4).imp fun O5 H5 ⟨Y5,s5,Z5,stp5,en5,h5⟩=>?_⟩;refine ⟨Y5,Z5,s5,stp5.rep,en5,h5.imp fun fv H6 ⟨Y6,s6,fl,stp6,dn6,q6⟩=>?_⟩;have all6:wl (gm X) H1 Y1 H6 Y6 s6:=(stp2.trans stp3).trans stp6;cases fl with
    | nx Z'=> cases fv with
     | nx O'=>exact ⟨Y6,Z',s6,all6,dn6,q6⟩ | _=>exact (show False from dn6).elim
    | ct Z'=> cases fv with
     | ct O'=>exact ⟨Y6,Z',s6,all6,dn6,q6⟩ | _=>exact (show False from dn6).elim
    | bk Z'=> cases fv with
     | bk O'=>exact okR.here (b:=FlV.nx O') (Q:=z2T D) (a:=Fl.nx Z') (s:=s6) q6 stp6.rep dn6 | _=>exact (show False from dn6).elim
    | rt d=> cases fv with
     | rt v=>exact okR.here (b:=FlV.rt v) (Q:=z2T D) (a:=Fl.rt d) (s:=s6) q6 stp6.rep dn6 | _=>exact (show False from dn6).elim
   ·exact h2.elim
  ·left;have e:i=items.length:=by omega
   subst e;rw [List.drop_length,xG] at h2;split at h2
   ·rename_i hG;exact ⟨(ok H Y2 s2 stp2 hG _).2 (_j _),okR.here (b:=FlV.nx O) (Q:=z2T D) h2 stp2.rep en2⟩
   ·exact h2.elim
end
end Dd
namespace Zz
def Sit(b:Bool)(h:Heap)(it l:Addr)(k:Nat):Prop:=match b with
 | true=>h.IsListIter it l k | false=>h.IsTupleIter it l k
def Sco(b:Bool)(h:Heap)(l:Addr)(xs:Array Value):Prop:=match b with
 | true=>h.IsList l xs | false=>h.IsTuple l xs
theorem Sit.to{b:Bool}{h h':Heap}{it l:Addr}{k:Nat}(x:Sit b h it l k)(e:∀ o,h.get? it=some o->h'.get? it=some o):Sit b h' it l k:=by cases b with
 | true=>obtain ⟨o,ho,r⟩:=x;exact ⟨o,e _ ho,r⟩ | false=>obtain ⟨o,ho,r⟩:=x;exact ⟨o,e _ ho,r⟩
theorem Sco.to{b:Bool}{h h':Heap}{l:Addr}{xs:Array Value}(x:Sco b h l xs)(e:∀ o,h.get? l=some o->h'.get? l=some o):Sco b h' l xs:=by cases b with
 | true=>obtain ⟨o,ho,r⟩:=x;exact ⟨o,e _ ho,r⟩ | false=>obtain ⟨o,ho,r⟩:=x;exact ⟨o,e _ ho,r⟩
theorem Sit.lt{b:Bool}{h:Heap}{it l:Addr}{k:Nat}(x:Sit b h it l k):it<h.objs.size:=by cases b with
 | true=>obtain ⟨o,ho,r⟩:=x;exact _m ho | false=>obtain ⟨o,ho,r⟩:=x;exact _m ho
theorem Sit.ob{b:Bool}{h:Heap}{it l:Addr}{k:Nat}(x:Sit b h it l k):∃ o,h.get? it=some o/\∀ v,o.data≠.cell v:=by cases b with
 | true=>obtain ⟨o,ho,_,d⟩:=x;exact ⟨o,ho,fun v z=>by rw [d] at z;cases z⟩ | false=>obtain ⟨o,ho,_,d⟩:=x;exact ⟨o,ho,fun v z=>by rw [d] at z;cases z⟩
section
variable {P:Program}{w:World}{A:Around}{E:Value->Shared->Prop}{s:Shared}
theorem zg1{it l:Addr}{k:Nat}{xs:Array Value}{x:Value}{R:Value->Shared->Prop}(h1:s.heap.IsTupleIter it l k)(h2:s.heap.IsTuple l xs)(e:xs[k]? = some x) (q:∀ h',h'.IsTupleIter it l (k+1)->Heap.SameBut it s.heap h'->R x {s with heap:=h'}):wpAny (model P w) A (Builtin.SmallTypes.nextOf (.ref it)) R E s:=by
 obtain ⟨o,ho,hc,hd⟩:=id h1;obtain ⟨ol,hol,_,nl,hdl⟩:=h2;unfold Builtin.SmallTypes.nextOf;refine _a (_O (name:=Str.ofString "__next__") h1.typeIs _aL (_U _aL h1.typeIs F.entry_tuple_iterator_next ?_ (F.args_tuple_iterator_next_1 _)));show wpAny _ _ (field (.ref it) 0 >>= _) _ _ s;refine _a (_C ho hd (x:=.ref l) rfl ?_);show wpAny _ _ (if (Value.ref l==Value.none)=true then _ else _) _ _ s;rw [_o (show ¬ ((Value.ref l==Value.none)=true) from _N)];show wpAny _ _ (field (.ref it) 1 >>= _) _ _ s;refine _a (_C ho hd (x:=.int k 0) rfl ?_);show wpAny _ _ (seqItems? (.ref l) >>= _) _ _ s;refine _a (_aM hol hdl ?_);simp only [_aR,e];refine _a (_ch ho hd (by simp) (_g ⟨x,rfl,_g (q _ ?_ (_bl ..))⟩));exact ⟨_,_bI _ ho (Obj.isFreed_of_fields (_bu hd _)),(Obj.cls_mapFields ..).trans hc,by rw [_bu hd];simp [rawInt]⟩
theorem z8J {it l:Addr} {k:Nat} {xs:Array Value} {R:Value->Shared->Prop} (hh:A.handled=none) (h1:s.heap.IsTupleIter it l k) (h2:s.heap.IsTuple l xs) (e:xs[k]? = none) (q:∀ h' e,Heap.ExtBut it s.heap h'->(∃ o,h'.get? e=some o/\o.cls=.type "StopIteration")->E (.ref e) {s with heap:=h'}):wpAny (model P w) A (Builtin.SmallTypes.nextOf (.ref it)) R E s:=by
 obtain ⟨o,ho,hc,hd⟩:=id h1;obtain ⟨ol,hol,_,nl,hdl⟩:=h2;unfold Builtin.SmallTypes.nextOf;refine _a (_O (name:=Str.ofString "__next__") h1.typeIs _aL (_U _aL h1.typeIs F.entry_tuple_iterator_next ?_ (F.args_tuple_iterator_next_1 _)));show wpAny _ _ (field (.ref it) 0 >>= _) _ _ s;refine _a (_C ho hd (x:=.ref l) rfl ?_);show wpAny _ _ (if (Value.ref l==Value.none)=true then _ else _) _ _ s;rw [_o (show ¬ ((Value.ref l==Value.none)=true) from _N)];show wpAny _ _ (field (.ref it) 1 >>= _) _ _ s;refine _a (_C ho hd (x:=.int k 0) rfl ?_);show wpAny _ _ (seqItems? (.ref l) >>= _) _ _ s;refine _a (_aM hol hdl ?_);simp only [_aR,e];refine _a (_cb (_a (_ch ho hd (by simp) ?_)));show wpAny _ _ (newExc (.type "StopIteration") [] >>= _) _ _ _;refine _a ?_;simp only [newExc,newTuple];refine _a (_M ?_ (by size_fits));refine _a (m:=firstArgMember _ _) (wpAny_of_eq (a:=Value.none) (by first | rfl | (simp only [firstArgMember];rfl)) ?_);refine _M ?_ (by size_fits);simp only [raiseNew];refine _a (wpAny_handled ?_);first | rw [show A.in1.handled=none from hh] | rw [hh]
 refine _a (_g (wpAny_throw ?_));exact q _ _ (((_bl ..).extBut.push _).push _) ⟨_,_n _ rfl,rfl⟩
theorem nx{b:Bool}{it l:Addr}{k:Nat}{xs:Array Value}{x:Value}{R:Value->Shared->Prop}(h1:Sit b s.heap it l k)(h2:Sco b s.heap l xs)(e:xs[k]? = some x) (q:∀ h',Sit b h' it l (k+1)->Heap.SameBut it s.heap h'->R x {s with heap:=h'}):wpAny (model P w) A (Builtin.SmallTypes.nextOf (.ref it)) R E s:=by cases b with
 | true=>exact wpAny_nextOf_list_item h1 h2 e q | false=>exact zg1 h1 h2 e q
theorem z9L {b:Bool} {it l:Addr} {k:Nat} {xs:Array Value} {R:Value->Shared->Prop} (hh:A.handled=none) (h1:Sit b s.heap it l k) (h2:Sco b s.heap l xs) (e:xs[k]? = none) (q:∀ h' e,Heap.ExtBut it s.heap h'->(∃ o,h'.get? e=some o/\o.cls=.type "StopIteration")->E (.ref e) {s with heap:=h'}):wpAny (model P w) A (Builtin.SmallTypes.nextOf (.ref it)) R E s:=by cases b with
 | true=>exact wpAny_nextOf_list_end hh h1 h2 e q | false=>exact z8J hh h1 h2 e q
theorem zu{a:Addr}{h h':Heap}(hs:Heap.SameBut a h h'){b:Addr}{o:Obj}(n:b≠a)(e:h.get? b=some o):h'.get? b=some o:=hs.extBut _ _ n e
theorem ze5 {z TI TO i1 i2 l1 l2:Addr} {b1 b2:Bool} {k:Nat} {xs ys:Array Value} {x y a b:Value} {Q:Option Value->Shared->Prop} (D:ZipApart z TI TO i1 i2 l1 l2) (hz:IsZip s.heap z TI TO .none) (hTI:IsPair s.heap TI (.ref i1) (.ref i2)) (hTO:IsPair s.heap TO a b) (h1:Sit b1 s.heap i1 l1 k) (h2:Sit b2 s.heap i2 l2 k) (c1:Sco b1 s.heap l1 xs) (c2:Sco b2 s.heap l2 ys) (ex:xs[k]? = some x) (ey:ys[k]? = some y) (q:∀ h',IsZip h' z TI TO (rawInt s.heap.objs.size)->IsPair h' TO x y->Sit b1 h' i1 l1 (k+1)->Sit b2 h' i2 l2 (k+1)->IsPair h' s.heap.objs.size x y->h'.objs.size=s.heap.objs.size+1-> (∀ c o,c≠z->c≠TO->c≠i1->c≠i2->s.heap.get? c=some o->h'.get? c=some o)->Q (some (.ref s.heap.objs.size)) {s with heap:=h'}):wpAny (model P w) A (pyNext (.ref z)) Q E s:=by
 have hT:s.TypeIs (.ref z) "zip":=⟨_,hz,rfl⟩;unfold pyNext;refine _a (_cz (_O (name:=Str.ofString "__next__") hT _bZ (_U _bZ hT F.entry_zip_next (Q:=fun v s'=>wpAny (model P w) A (pure (some v)) Q E s') ?_ (F.args_zip_next_1 _))));show wpAny _ _ (field (.ref z) 2 >>= _) _ _ _;refine _a (_C hz rfl (x:=.bool false) rfl ?_);show wpAny _ _ (field (.ref z) 3 >>= _) _ _ _;refine _a (_C hz rfl (x:=.ref TI) rfl ?_);refine _a (_aM hTI rfl ?_);show wpAny _ _ (Builtin.SmallTypes.ownedTupleIsFree (.ref z) >>= _) _ _ _;refine _a ?_;unfold Builtin.SmallTypes.ownedTupleIsFree;refine _a (_C hz rfl (x:=.none) rfl (_g ?_));simp only [_A];refine _a (_cb ?_);refine _a (_C hz rfl (x:=.ref TO) rfl ?_);refine _a (_Q hz (by simp) fun g1 z1 s1=>?_);replace z1:IsZip g1 z TI TO .ellipsis:=z1;refine _a ?_;simp only [_cL,List.zipIdx_nil,List.forIn_cons,List.forIn_nil];refine _a (_a (_cA ?_));show wpAny _ _ (Builtin.SmallTypes.nextOf (.ref i1) >>= _) _ _ _;refine _a (nx (h1.to fun o e=>zu s1 D.i1z e) (c1.to fun o e=>zu s1 D.l1z e) ex fun g2 t2 s2=>_g ?_);have o2:IsPair g2 TO a b:=zu s2 D.TOi1 (zu s1 D.TOz hTO);refine _a (_aM o2 rfl ?_);refine _a (_bT o2 fun g3 o3 s3=>?_);replace o3:IsPair g3 TO x b:=o3;refine _a (wpAny_letGo (_g ?_));refine _a (_a (_cA ?_));show wpAny _ _ (Builtin.SmallTypes.nextOf (.ref i2) >>= _) _ _ _;refine _a (nx (h2.to fun o e=>zu s3 D.TOi2.symm (zu s2 D.i12.symm (zu s1 D.i2z e))) (c2.to fun o e=>zu s3 D.l2TO (zu s2 D.l2i1 (zu s1 D.l2z e))) ey fun g4 t4 s4=>_g ?_);have o4:IsPair g4 TO x b:=zu s4 D.TOi2 o3;refine _a (_aM o4 rfl ?_);refine _a (_bT o4 fun g5 o5 s5=>?_);replace o5:IsPair g5 TO x y:=o5;refine _a (wpAny_letGo (_g (_g ?_)));refine _a (_aM o5 rfl ?_);refine _a (_ci ?_);have sz:g5.objs.size=s.heap.objs.size:=by rw [s5.1,s4.1,s3.1,s2.1,s1.1]
 have z5:IsZip g5 z TI TO .ellipsis:=zu s5 D.TOz.symm (zu s4 D.i2z.symm (zu s3 D.TOz.symm (zu s2 D.i1z.symm z1)));have k5:∀ c o,c≠z->c≠TO->c≠i1->c≠i2->s.heap.get? c=some o->g5.get? c=some o:=fun c o n1 n2 n3 n4 e=>zu s5 n2 (zu s4 n4 (zu s3 n2 (zu s2 n3 (zu s1 n1 e))));have t5:Sit b1 g5 i1 l1 (k+1):=t2.to fun o e=>zu s5 D.TOi1.symm (zu s4 D.i12 (zu s3 D.TOi1.symm e));have u5:Sit b2 g5 i2 l2 (k+1):=t4.to fun o e=>zu s5 D.TOi2.symm e;have zl:z<g5.objs.size:=_m z5;show wpAny _ _ (Builtin.SmallTypes.ownedTupleHandOut (.ref z) (.ref g5.objs.size) >>= _) _ _ _;refine _a ?_;unfold Builtin.SmallTypes.ownedTupleHandOut;have z6:IsZip (g5.push {cls:=.type "tuple",data:=.seq #[x,y]}) z TI TO .ellipsis:=_b _ z5;refine _a (_Q z6 (by simp) fun g7 z7 s7=>?_);replace z7:IsZip g7 z TI TO (rawInt g5.objs.size):=z7;refine _Q z7 (by simp) fun g8 z8 s8=>?_;replace z8:IsZip g8 z TI TO (rawInt g5.objs.size):=z8;have up:∀ c o,c≠z->g5.get? c=some o->g8.get? c=some o:=fun c o n e=>zu s8 n (zu s7 n (_b _ e));have p8:IsPair g8 g5.objs.size x y:=zu s8 (_b3 zl) (zu s7 (_b3 zl) (_n _ rfl));have e8:g8.objs.size=g5.objs.size+1:=by rw [s8.1,s7.1,_aa]
 rw [sz] at z8 p8 e8;refine _g ⟨_,rfl,_g ?_⟩;show Q (some (.ref g5.objs.size)) _;rw [sz];exact q g8 z8 (up _ _ D.TOz o5) (t5.to fun o e=>up _ o D.i1z e) (u5.to fun o e=>up _ o D.i2z e) p8 e8 fun c o n1 n2 n3 n4 e=>up c o n1 (k5 c o n1 n2 n3 n4 e)
theorem zh7 {z TI TO i1 i2 l1 l2:Addr} {b1 b2:Bool} {k:Nat} {xs ys:Array Value} {a b:Value} {Q:Option Value->Shared->Prop} (hh:A.handled=none) (D:ZipApart z TI TO i1 i2 l1 l2) (hz:IsZip s.heap z TI TO .none) (hTI:IsPair s.heap TI (.ref i1) (.ref i2)) (hTO:IsPair s.heap TO a b) (h1:Sit b1 s.heap i1 l1 k) (h2:Sit b2 s.heap i2 l2 k) (c1:Sco b1 s.heap l1 xs) (c2:Sco b2 s.heap l2 ys) (en:xs[k]? = none\/ys[k]? = none) (q:∀ h',(∀ c o,c≠z->c≠TO->c≠i1->c≠i2->s.heap.get? c=some o->h'.get? c=some o)->Q none {s with heap:=h'}):wpAny (model P w) A (pyNext (.ref z)) Q E s:=by
 have hT:s.TypeIs (.ref z) "zip":=⟨_,hz,rfl⟩;have fin:∀ h' e,(∀ c o,c≠z->c≠TO->c≠i1->c≠i2->s.heap.get? c=some o->h'.get? c=some o)->(∃ o,h'.get? e=some o/\o.cls=.type "StopIteration")-> wpAny (model P w) A (isInstance (.ref e) (.type "StopIteration") >>= fun b=>if b=true then (pure none:Sem (Option Value)) else throw (.ref e)) Q E {s with heap:=h'}:=fun h' e hk he=>by
  obtain ⟨o,ho,hc⟩:=he;refine _a (wpAny_isInstance (T:="StopIteration") (b:=true) ⟨o,ho,hc⟩ isSubtype_stop ?_);exact _g (q _ hk)
 unfold pyNext;refine _a (_cz (_O (name:=Str.ofString "__next__") hT _bZ (_U _bZ hT F.entry_zip_next ?_ (F.args_zip_next_1 _))));show wpAny _ _ (field (.ref z) 2 >>= _) _ _ _;refine _a (_C hz rfl (x:=.bool false) rfl ?_);show wpAny _ _ (field (.ref z) 3 >>= _) _ _ _;refine _a (_C hz rfl (x:=.ref TI) rfl ?_);refine _a (_aM hTI rfl ?_);show wpAny _ _ (Builtin.SmallTypes.ownedTupleIsFree (.ref z) >>= _) _ _ _;refine _a ?_;unfold Builtin.SmallTypes.ownedTupleIsFree;refine _a (_C hz rfl (x:=.none) rfl (_g ?_));simp only [_A];refine _a (_cb ?_);refine _a (_C hz rfl (x:=.ref TO) rfl ?_);refine _a (_Q hz (by simp) fun g1 z1 s1=>?_);replace z1:IsZip g1 z TI TO .ellipsis:=z1;refine _a ?_;simp only [_cL,List.zipIdx_nil,List.forIn_cons,List.forIn_nil];refine _a (_a (_cA ?_));show wpAny _ _ (Builtin.SmallTypes.nextOf (.ref i1) >>= _) _ _ _;cases ex:xs[k]? with
 | none=>
  refine _a (z9L hh (h1.to fun o e=>zu s1 D.i1z e) (c1.to fun o e=>zu s1 D.l1z e) ex fun g2 e s2 he=>?_);obtain ⟨oe,hoe,hce⟩:=he;have z2:IsZip g2 z TI TO .ellipsis:=s2 _ _ D.i1z.symm z1;have ez:e≠z:=fun t=>by subst t;rw [z2] at hoe;cases hoe;simp at hce
  exact _Q z2 (by simp) fun g3 _ s3=>fin g3 e (fun c o n1 _ n3 _ t=>zu s3 n1 (s2 _ _ n3 (zu s1 n1 t))) ⟨oe,zu s3 ez hoe,hce⟩ | some x=>
  have ey:ys[k]? = none:=by rcases en with t | t;rw [ex] at t;cases t;exact t
  refine _a (nx (h1.to fun o e=>zu s1 D.i1z e) (c1.to fun o e=>zu s1 D.l1z e) ex fun g2 t2 s2=>_g ?_);have o2:IsPair g2 TO a b:=zu s2 D.TOi1 (zu s1 D.TOz hTO);refine _a (_aM o2 rfl ?_);refine _a (_bT o2 fun g3 o3 s3=>?_);refine _a (wpAny_letGo (_g ?_));refine _a (_a (_cA ?_));show wpAny _ _ (Builtin.SmallTypes.nextOf (.ref i2) >>= _) _ _ _;refine _a (z9L hh (h2.to fun o e=>zu s3 D.TOi2.symm (zu s2 D.i12.symm (zu s1 D.i2z e))) (c2.to fun o e=>zu s3 D.l2TO (zu s2 D.l2i1 (zu s1 D.l2z e))) ey fun g4 e s4 he=>?_);obtain ⟨oe,hoe,hce⟩:=he;have z4:IsZip g4 z TI TO .ellipsis:=s4 _ _ D.i2z.symm (zu s3 D.TOz.symm (zu s2 D.i1z.symm z1));have ez:e≠z:=fun t=>by subst t;rw [z4] at hoe;cases hoe;simp at hce
  exact _Q z4 (by simp) fun g5 _ s5=>fin g5 e (fun c o n1 n2 n3 n4 t=>zu s5 n1 (s4 _ _ n4 (zu s3 n2 (zu s2 n3 (zu s1 n1 t))))) ⟨oe,zu s5 ez hoe,hce⟩
end
def itO(b:Bool)(l:Addr):Obj:=match b with
 | true=>{cls:=.type "list_iterator",data:=.fields #[.ref l,.int 0 0]} | false=>{cls:=.type "tuple_iterator",data:=.fields #[.ref l,.int 0 0]}
theorem z5i{b:Bool}{h:Heap}{a l:Addr}(e:h.get? a=some (itO b l)):Sit b h a l 0:=by cases b with
 | true=>exact ⟨_,e,rfl,rfl⟩ | false=>exact ⟨_,e,rfl,rfl⟩
theorem z1t(b:Bool)(l:Addr):(itO b l).isFreed=false:=by cases b<;>rfl
section
variable {P:Program}{w:World}{A:Around}{E:Value->Shared->Prop}{s:Shared}
theorem z3g {b:Bool} {l:Addr} {xs:Array Value} {Q:Value->Shared->Prop} (h:Sco b s.heap l xs) (q:Q (.ref s.heap.objs.size) {s with heap:=s.heap.push (itO b l)}):wpAny (model P w) A (pyIter (.ref l)) Q E s:=by cases b with
 | true=>exact wpAny_pyIter_list h q | false=>exact wpAny_pyIter_tuple h q
end
abbrev G1(b1:Bool)(h:Heap)(l1:Addr):Heap:=h.push (itO b1 l1)
abbrev G2(b1 b2:Bool)(h:Heap)(l1 l2:Addr):Heap:=(G1 b1 h l1).push (itO b2 l2)
abbrev G3(b1 b2:Bool)(h:Heap)(l1 l2:Addr):Heap:=(G2 b1 b2 h l1 l2).push {cls:=.type "tuple",data:=.seq #[.ref h.objs.size,.ref (G1 b1 h l1).objs.size]}
abbrev G4(b1 b2:Bool)(h:Heap)(l1 l2:Addr):Heap:=(G3 b1 b2 h l1 l2).push {cls:=.type "tuple",data:=.seq #[.none,.none]}
abbrev G5(b1 b2:Bool)(h:Heap)(l1 l2:Addr):Heap:=(G4 b1 b2 h l1 l2).push {cls:=.type "zip",data:=.fields #[.none,.bool false,.bool false,.ref (G2 b1 b2 h l1 l2).objs.size,.ref (G3 b1 b2 h l1 l2).objs.size]}
theorem zb8 (b1 b2:Bool) (l1 l2:Addr) (xs ys:Array Value): Meets (Builtin.«zip.__new__» ⟨[.type "zip",.ref l1,.ref l2],[]⟩) (fun _ R s=>Sco b1 s.heap l1 xs/\Sco b2 s.heap l2 ys/\R (.ok (.ret (.ref (G4 b1 b2 s.heap l1 l2).objs.size))) {s with heap:=G5 b1 b2 s.heap l1 l2}):= .of_wp fun prog w A R s h=>by
  obtain ⟨hp,g,d,tk,os⟩:=s;obtain ⟨c1,c2,h⟩:=h;have hsub:=sub_zip;have q1:Sco b1 (Shared.heap ⟨hp,g,d,tk,os⟩) l1 xs:=c1;have q2:Sco b2 (Shared.heap ⟨hp.push (itO b1 l1),g,d,tk,os⟩) l2 ys:=c2.to fun o e=>_b _ e;wp_walk using z3g q1,z3g q2;exact ⟨_,rfl,h⟩
section
variable {P:Program}{w:World}{A:Around}{E:Value->Shared->Prop}{s:Shared}
theorem zcs {b1 b2:Bool} {l1 l2:Addr} {xs ys:Array Value} {Q:Value->Shared->Prop} (c1:Sco b1 s.heap l1 xs) (c2:Sco b2 s.heap l2 ys) (h:∀ h',IsZip h' (s.heap.objs.size+4) (s.heap.objs.size+2) (s.heap.objs.size+3) .none->IsPair h' (s.heap.objs.size+2) (.ref s.heap.objs.size) (.ref (s.heap.objs.size+1))-> IsPair h' (s.heap.objs.size+3) .none .none->Sit b1 h' s.heap.objs.size l1 0->Sit b2 h' (s.heap.objs.size+1) l2 0->(∀ c o,s.heap.get? c=some o->h'.get? c=some o)->Q (.ref (s.heap.objs.size+4)) {s with heap:=h'}): wpAny (model P w) A (call (.type "zip") [.ref l1,.ref l2]) Q E s:=by
 refine callType_new F.called_zip (by decide) (F.typeCall_zip_2 _ _) (F.newCall_zip_2 _ _) (fun obj=>F.args_object_init_3 obj _ _) F.entry_zip_new (zb8 b1 b2 l1 l2 xs ys) ⟨c1,c2,?_⟩;have z1:(G1 b1 s.heap l1).objs.size=s.heap.objs.size+1:=_aa ..;have z2:(G2 b1 b2 s.heap l1 l2).objs.size=s.heap.objs.size+2:=by rw [_aa,z1]
 have z3:(G3 b1 b2 s.heap l1 l2).objs.size=s.heap.objs.size+3:=by rw [_aa,z2]
 have z4:(G4 b1 b2 s.heap l1 l2).objs.size=s.heap.objs.size+4:=by rw [_aa,z3]
 have up:∀ {h:Heap} {o:Obj} {c:Addr} {u:Obj},h.get? c=some u->(h.push o).get? c=some u:=fun e=>_b _ e;have g5:(G5 b1 b2 s.heap l1 l2).get? (G4 b1 b2 s.heap l1 l2).objs.size=some _:=_n _ rfl;have g4:(G5 b1 b2 s.heap l1 l2).get? (G3 b1 b2 s.heap l1 l2).objs.size=some _:=up (_n _ rfl);have g3:(G5 b1 b2 s.heap l1 l2).get? (G2 b1 b2 s.heap l1 l2).objs.size=some _:=up (up (_n _ rfl));have g2:(G5 b1 b2 s.heap l1 l2).get? (G1 b1 s.heap l1).objs.size=some (itO b2 l2):=up (up (up (_n _ (z1t b2 l2))));have g1:(G5 b1 b2 s.heap l1 l2).get? s.heap.objs.size=some (itO b1 l1):=up (up (up (up (_n _ (z1t b1 l1)))));show _/\_;rw [z2,z3,z4] at g5;rw [z1,z2] at g3;rw [z3] at g4;rw [z1] at g2;rw [z4];exact ⟨⟨_,g5,rfl⟩,h _ g5 g3 g4 (z5i g1) (z5i g2) fun c o e=>up (up (up (up (up e))))⟩
end
end Zz
namespace L2
open Zz
def Sq(b:Bool)(K:W.Frag)(H:Hp)(a:Addr)(xs:List V):Prop:=match b with
 | true=>SqL K H a xs | false=>SqT K H a xs
section
variable {X:Cx}{pins:List (Addr×Obj)}{O:St}{H:Hp}{s:Shared}{h':Heap}
theorem Inv.sq{b:Bool}{a:Addr}{xs:List V}(I:Inv X pins O H s)(h:Sq b X.K H a xs):∃ its:List Value,yA xs its/\Sco b s.heap a its.toArray:=by cases b with
 | true=>obtain ⟨its,r,p,_⟩:=I.list h;exact ⟨its,r,p.isList⟩ | false=>obtain ⟨its,r,p,_⟩:=I.tuple h;exact ⟨its,r,p⟩
theorem Inv.sq_inj{b:Bool}{a:Addr}{xs ys:List V}(I:Inv X pins O H s)(h:Sq b X.K H a xs)(h':Sq b X.K H a ys):xs=ys:=by cases b with
 | true=>exact I.list_inj h h' | false=>exact I.tuple_inj h h'
theorem Inv.turnedL {t':Nat} {ch:List Addr} (I:Inv X pins O H s) (k:∀ b o,b∉ch->s.heap.get? b=some o->h'.get? b=some o) (f:∀ b∈ch,z2z X pins H b):Inv X pins O H {s with heap:=h',toks:=t'}:=by
 have nit:∀ b u,H b=some u->b∉ch:=fun b u e z=>by rw [(f b z).1] at e;cases e
 refine I.step (g':=s.gens) (d':=s.drawn) (ch:=ch) (fun b hb=>⟨(f b hb).2.2.2.1,(f b hb).2.1,(f b hb).2.2.2.2.1,(f b hb).2.2.2.2.2⟩) (fun b o _ _ hc e _=>k b o hc e) (fun b o _ _ hc e _=>⟨o.slots,k b o hc e⟩) (fun _ _ _ _ n=>n) (fun b o hc e=>⟨o,k b o hc e⟩) (fun _ _ e=>e) (fun _ _ _ e=>e) (fun b ps e=>⟨#[],by rw [e];simp⟩) (fun m hm=>?_) (fun b u e=>?_) I.bare
 ·obtain ⟨o,es,ep,ho,r⟩:=hm;exact ⟨o,es,ep,k _ o (fun z=>(f _ z).2.1 rfl) ho,r⟩
 ·refine (I.hok b u e).stay (fun c v hc q=>k c v ?_ q) (fun _ q=>q) fun _ _ q=>q;rcases hc with z | z;·rw [z];exact nit b u e
  ·exact nit c _ z
end
def Itz(K:W.Frag)(b1 b2:Bool)(l1 l2:Addr):It:= ⟨fun i H=>∃ xs ys x y,Sq b1 K H l1 xs/\Sq b2 K H l2 ys/\xs[i]? = some x/\ys[i]? = some y, fun i H v H'=>∃ T x y,H T=none/\v=.ref T/\H'=upd H T (.tup [x,y])/\(∀ xs,Sq b1 K H l1 xs->xs[i]? = some x)/\∀ ys,Sq b2 K H l2 ys->ys[i]? = some y, fun i H=>∃ xs ys,Sq b1 K H l1 xs/\Sq b2 K H l2 ys/\(xs.length<=i\/ys.length<=i)⟩
theorem zcl {P:Program} {w:World} {K:W.Frag} {elts:List Expr} {kt:Nat} {tp:Pos} {b1 b2:Bool} {z TI TO i1 i2 l1 l2:Addr} (D:ZipApart z TI TO i1 i2 l1 l2): zbW P w K (.Tuple elts kt tp) (Itz K b1 b2 l1 l2) [z,TI,TO,i1,i2] z (fun i h=>IsZip h z TI TO .none/\IsPair h TI (.ref i1) (.ref i2)/\(∃ a b,IsPair h TO a b)/\Sit b1 h i1 l1 i/\Sit b2 h i2 l2 i) where
 mem:=by simp
 obj:=fun i h ⟨hz,hTI,⟨a,b,hTO⟩,h1,h2⟩ c hc=>by
  have hc':c=z\/c=TI\/c=TO\/c=i1\/c=i2:=by simpa using hc
  rcases hc' with rfl | rfl | rfl | rfl | rfl;·exact ⟨_,hz,fun v e=>by simp at e⟩
  ·exact ⟨_,hTI,fun v e=>by simp at e⟩
  ·exact ⟨_,hTO,fun v e=>by simp at e⟩
  ·exact h1.ob
  ·exact h2.ob
 keep:=fun i h h' ⟨hz,hTI,⟨a,b,hTO⟩,h1,h2⟩ k=>⟨k z (by simp) _ hz,k TI (by simp) _ hTI,⟨a,b,k TO (by simp) _ hTO⟩,h1.to fun o e=>k i1 (by simp) o e,h2.to fun o e=>k i2 (by simp) o e⟩;item:=by
  intro X hP hw hK hc i pins s O H E I hf ⟨hz,hTI,⟨a,b,hTO⟩,h1,h2⟩ ⟨xs,ys,x,y,qx,qy,ex,ey⟩;subst hP hw hK;obtain ⟨ix,rx,cx⟩:=I.sq qx;obtain ⟨iy,ry,cy⟩:=I.sq qy;obtain ⟨u,hu,ru⟩:=rx.get ex;obtain ⟨v,hv,rv⟩:=ry.get ey;refine ze5 D hz hTI hTO h1 h2 cx cy (x:=u) (y:=v) (by simpa using hu) (by simpa using hv) fun g a1 a2 a3 a4 a5 a6 hk=>⟨_,rfl,?_⟩;have kk:∀ c o,c∉[z,TO,i1,i2]->s.heap.get? c=some o->g.get? c=some o:=fun c o n e=>hk c o (fun t=>n (by simp [t])) (fun t=>n (by simp [t])) (fun t=>n (by simp [t])) (fun t=>n (by simp [t])) e;have sub:∀ c∈[z,TO,i1,i2],c∈[z,TI,TO,i1,i2]:=fun c hc=>by
   have:c=z\/c=TO\/c=i1\/c=i2:=by simpa using hc
   rcases this with rfl | rfl | rfl | rfl<;>simp
  have I1:Inv X pins O H {s with heap:=g}:=I.turnedL (t':=s.toks) kk fun c hc=>hf c (sub c hc);refine wpAny_letOwnedTupleGo_zip a1 fun g2 z2 s2=>?_;obtain ⟨f0,f1,f2,f3,f4,f5⟩:=hf z (by simp);have I2:Inv X pins O H {s with heap:=g2}:=I1.turned (t':=s.toks) (fun c o n e=>zu s2 n e) f0 f1 f3 f4 f5;have new:z2z X pins H s.heap.objs.size:=I.fpOk (_j _) (I.hok.fresh (_j _));have ne:∀ {c:Addr} {o:Obj},s.heap.get? c=some o->c≠s.heap.objs.size:=fun e=>_u (_m e);have p2:IsPair g2 s.heap.objs.size u v:=zu s2 (ne hz).symm a5;refine ⟨.ref s.heap.objs.size,upd H s.heap.objs.size (.tup [x,y]),I2.track new ⟨?_,[u,v],.cons ru (.cons rv .nil),⟨_,p2,rfl,rfl,_,rfl⟩⟩,rfl,⟨_,x,y,new.1,rfl,rfl,fun zs qz=>?_,fun zs qz=>?_⟩,⟨z2,?_,⟨_,_,zu s2 D.TOz a2⟩,a3.to fun o e=>zu s2 D.i1z e,a4.to fun o e=>zu s2 D.i2z e⟩,fun c hc=>?_⟩;·show 2<=sizeLine;decide
  ·rw [I.sq_inj qz qx];exact ex
  ·rw [I.sq_inj qz qy];exact ey
  ·exact zu s2 D.TIz (hk TI _ D.TIz D.TITO D.TIi1 D.TIi2 hTI)
  ·have hc':c=z\/c=TI\/c=TO\/c=i1\/c=i2:=by simpa using hc
   have:c≠s.heap.objs.size:=by
    rcases hc' with rfl | rfl | rfl | rfl | rfl;·exact ne hz
    ·exact ne hTI
    ·exact ne hTO
    ·exact _u h1.lt
    ·exact _u h2.lt
   rw [zE this];exact (hf c hc).1
 done:=by
  intro X hP hw hK hc i pins s O H E I hf ⟨hz,hTI,⟨a,b,hTO⟩,h1,h2⟩ ⟨xs,ys,qx,qy,hl⟩;subst hP hw hK;obtain ⟨ix,rx,cx⟩:=I.sq qx;obtain ⟨iy,ry,cy⟩:=I.sq qy;have lx:=rx.length;have ly:=ry.length;refine zh7 (I.ok.hd hc) D hz hTI hTO h1 h2 cx cy ?_ fun g hk=>⟨rfl,?_⟩
  ·rcases hl with hl | hl;·exact .inl (by simp;omega)
   ·exact .inr (by simp;omega)
  ·exact I.turnedL (t':=s.toks) (ch:=[z,TO,i1,i2]) (fun c o n e=>hk c o (fun t=>n (by simp [t])) (fun t=>n (by simp [t])) (fun t=>n (by simp [t])) (fun t=>n (by simp [t])) e) fun c hc=>hf c (by
    have:c=z\/c=TO\/c=i1\/c=i2:=by simpa using hc
    rcases this with rfl | rfl | rfl | rfl<;>simp)
 self:=fun _ _ _ _ _ st h=>wpAny_pyIter_zip st.1 h
theorem zhn{X:Cx}{elts:List Expr}{kt:Nat}{tp:Pos}{a b:Expr}{ta:TA}{p pos:Pos}(hg:Gl X "zip")(hm:X.mg "zip"=none)(ha:PA X [a,b] ta)(hs:starEach [a,b] X.env=(false,eval a X.env)::starEach [b] X.env:=by rfl)(hpl:(backTo pos (starEach [b] X.env)).any (·.1)=false:=by rfl): PI X (.Tuple elts kt tp) (.Call (.Name "zip" p) [a,b] [] pos) (fun O H R=>ta O H fun vs H1=>∃ l1 l2 b1 b2,vs=[.ref l1,.ref l2]/\(∃ xs,Sq b1 X.K H1 l1 xs)/\(∃ ys,Sq b2 X.K H1 l2 ys)/\R (Itz X.K b1 b2 l1 l2) H1):=by
 intro pins s O H R I h;refine _ar (z3y I hg hm (u:=.type "zip") (by first | exact PySem.boot_zip | rfl | decide +kernel) ?_ (by decide) (by decide));refine _aF (thn (ha pos pins s O H _ I h) fun us s1 ⟨vs,H1,I1,r1,q1⟩=>?_) hs hpl;obtain ⟨l1,l2,b1,b2,rfl,⟨xs,qx⟩,⟨ys,qy⟩,q⟩:=q1;cases r1 with | cons r1 r2=> cases r2 with | cons r2 r3=>
   cases r3;cases r1;cases r2;obtain ⟨ix,rx,cx⟩:=I1.sq qx;obtain ⟨iy,ry,cy⟩:=I1.sq qy;have lt1:l1<s1.heap.objs.size:=by cases b1 with
    | true=>obtain ⟨o,e,_⟩:=cx;exact _m e | false=>obtain ⟨o,e,_⟩:=cx;exact _m e
   have lt2:l2<s1.heap.objs.size:=by cases b2 with
    | true=>obtain ⟨o,e,_⟩:=cy;exact _m e | false=>obtain ⟨o,e,_⟩:=cy;exact _m e
   have D:ZipApart (s1.heap.objs.size+4) (s1.heap.objs.size+2) (s1.heap.objs.size+3) s1.heap.objs.size (s1.heap.objs.size+1) l1 l2:=by
    have e1:∀ k:Nat,l1≠s1.heap.objs.size+k:=fun k=>_u (_q lt1 (_cM _ _));have e2:∀ k:Nat,l2≠s1.heap.objs.size+k:=fun k=>_u (_q lt2 (_cM _ _));have nk:∀ (m j k:Nat),j≠k->m+j≠m+k:=fun m j k h z=>h (Nat.add_left_cancel z);exact ⟨nk _ 2 4 (by decide),nk _ 3 4 (by decide),nk _ 0 4 (by decide),nk _ 1 4 (by decide),nk _ 2 3 (by decide),nk _ 2 0 (by decide),nk _ 2 1 (by decide),nk _ 3 0 (by decide),nk _ 3 1 (by decide),nk _ 0 1 (by decide),e1 4,e1 3,e1 0,e1 1,e2 4,e2 3,e2 0,e2 1⟩
   refine zcs cx cy fun g hz hTI hTO h1 h2 hk=>?_;refine wpAny_pyIter_zip hz ?_;refine ⟨_,_,_,_,H1,rfl,I1.kept (t':=s1.toks) hk,zcl D,⟨hz,hTI,⟨_,_,hTO⟩,h1,h2⟩,fun c hc=>?_,q⟩;have hc':s1.heap.objs.size<=c:=by
    have:c=s1.heap.objs.size+4\/c=s1.heap.objs.size+2\/c=s1.heap.objs.size+3\/c=s1.heap.objs.size\/c=s1.heap.objs.size+1:=by simpa using hc
    rcases this with rfl | rfl | rfl | rfl | rfl<;>first | exact _j _ | exact _cM _ _
   exact I1.fpOk hc' (I1.hok.fresh hc')
end L2
namespace Zz
section
variable {P:Program}{w:World}{A:Around}{E:Value->Shared->Prop}{s:Shared}
theorem z7f {b : Bool} {l : Addr} {its : Array Value} {Q : Value → Shared → Prop} (hh : A.handled = none) (h : Sco b s.heap l its) (k : ∀ s2 : Shared, s2 = { s with heap := s.heap.push (itO b l) } → ∀ St : Nat → Heap → Prop, Walks P w A s.heap.objs.size [s.heap.objs.size, l] [s.heap.objs.size] its.size (fun i v => its[i]? = some v) St → St 0 s2.heap → (∀ c ∈ [s.heap.objs.size, l], c < s2.heap.objs.size) → (∀ h' : Heap, (∀ c o, c ∉ [s.heap.objs.size] → s2.heap.get? c = some o → h'.get? c = some o) → ∀ c o, s.heap.get? c = some o → h'.get? c = some o) → Q (.ref s.heap.objs.size) s2) : wpAny (model P w) A (pyIter (.ref l)) Q E s := by
  have lt : l < s.heap.objs.size := by cases b with
    | true => obtain ⟨o, e, _⟩ := h; exact _m e | false => obtain ⟨o, e, _⟩ := h; exact _m e
  have ne : l ≠ s.heap.objs.size := _u lt;have bd : ∀ c ∈ [s.heap.objs.size, l], c < (s.heap.push (itO b l)).objs.size := fun c hc => by
    have : c = s.heap.objs.size ∨ c = l := by simpa using hc
    rw [_aa];rcases this with rfl | rfl;· exact _a1 _
    · exact _ai lt
  have old : ∀ h' : Heap, (∀ c o, c ∉ [s.heap.objs.size] → (s.heap.push (itO b l)).get? c = some o → h'.get? c = some o) → ∀ c o, s.heap.get? c = some o → h'.get? c = some o := fun h' hk c o e =>
    hk c o (fun z => by have : c = s.heap.objs.size := by simpa using z
                        exact absurd (this ▸ _m e) (_af _)) (_b _ e);refine z3g h ?_;have g : (s.heap.push (itO b l)).get? s.heap.objs.size = some (itO b l) := _n _ (z1t b l);cases b with
  | true => exact k _ rfl _ (Walks.list hh _ l ne its) ⟨z5i (b := true) g, Sco.to (b := true) h fun o e => _b _ e⟩ bd old | false => exact k _ rfl _ (Walks.tuple hh _ l ne its) ⟨z5i (b := false) g, Sco.to (b := false) h fun o e => _b _ e⟩ bd old
end
end Zz
namespace L2
open Zz
def maxL:List Int->Int
 | []=>0 | x::xs=>xs.foldl max x
def minL:List Int->Int
 | []=>0 | x::xs=>xs.foldl min x
theorem ub:∀ (xs:List Int)(x:Int),x<=xs.foldl max x/\(∀ y∈xs,y<=xs.foldl max x)/\(xs.foldl max x=x\/xs.foldl max x∈xs)
 | [],x=>⟨_cv _,by simp,.inl rfl⟩ | y::ys,x=>by
  obtain ⟨h1,h2,h3⟩:=ub ys (max x y);refine ⟨by simp only [_aO];omega,fun z hz=>?_,?_⟩
  ·simp only [_aO];rcases _r.mp hz with rfl | hz;·omega
   ·exact h2 z hz
  ·simp only [_aO];rcases h3 with h3 | h3
   ·rw [h3];rcases Int.le_total x y with h | h;·exact .inr (by rw [Int.max_eq_right h];simp)
    ·exact .inl (Int.max_eq_left h)
   ·exact .inr (_t _ h3)
theorem ud:∀ (xs:List Int)(x:Int),xs.foldl min x<=x/\(∀ y∈xs,xs.foldl min x<=y)/\(xs.foldl min x=x\/xs.foldl min x∈xs)
 | [],x=>⟨_cv _,by simp,.inl rfl⟩ | y::ys,x=>by
  obtain ⟨h1,h2,h3⟩:=ud ys (min x y);refine ⟨by simp only [_aO];omega,fun z hz=>?_,?_⟩
  ·simp only [_aO];rcases _r.mp hz with rfl | hz;·omega
   ·exact h2 z hz
  ·simp only [_aO];rcases h3 with h3 | h3
   ·rw [h3];rcases Int.le_total x y with h | h;·exact .inl (Int.min_eq_left h)
    ·exact .inr (by rw [Int.min_eq_right h];simp)
   ·exact .inr (_t _ h3)
theorem maxL_ge{xs:List Int}:∀ y∈xs,y<=maxL xs:=by cases xs with
 | nil=>simp | cons x xs=>intro y hy;rcases _r.mp hy with rfl | hy;exact (ub xs y).1;exact (ub xs x).2.1 y hy
theorem maxL_mem{xs:List Int}(h:xs≠[]):maxL xs∈xs:=by cases xs with
 | nil=>exact absurd rfl h | cons x xs=>rcases (ub xs x).2.2 with e | e;exact (show xs.foldl max x∈x::xs by rw [e];simp);exact _t _ e
theorem minL_le{xs:List Int}:∀ y∈xs,minL xs<=y:=by cases xs with
 | nil=>simp | cons x xs=>intro y hy;rcases _r.mp hy with rfl | hy;exact (ud xs y).1;exact (ud xs x).2.1 y hy
theorem minL_mem{xs:List Int}(h:xs≠[]):minL xs∈xs:=by cases xs with
 | nil=>exact absurd rfl h | cons x xs=>rcases (ud xs x).2.2 with e | e;exact (show xs.foldl min x∈x::xs by rw [e];simp);exact _t _ e
section
variable {X:Cx}
theorem z4M {ns:List Int} {its:List Value} (r:yA (ns.map V.int) its) {i:Nat} {v:Value} (e:its.toArray[i]? = some v):∃ t,v=.int (ns.getD i 0) t/\i<ns.length:=by
 have e':its[i]? = some v:=by simpa using e
 have hl:=r.length;have hi:i<ns.length:=by
  have:=(_c.mp e').1;simp at hl;omega
 obtain ⟨u,hu,ru⟩:=r.get (i:=i) (x:=V.int ns[i]) (by simp [hi]);rw [e'] at hu;cases hu;obtain ⟨t,rfl⟩:=ru;exact ⟨t,by simp [List.getD,hi],hi⟩
theorem getD_in{ns:List Int}{i:Nat}(h:i<ns.length):ns.getD i 0∈ns:=by
 rw [List.getD,_f h];exact _V _
theorem zb3 (hc:X.calm=true):xD X (.builtin "max") (fun xs H Q=>∃ b p ns,xs=[.ref p]/\Sq b X.K H p (ns.map V.int)/\ns≠[]/\Q (.int (maxL ns)) H):=by
 intro pins s O H xs us Q I r h;obtain ⟨b,p,ns,rfl,hq,hne,q⟩:=h;obtain ⟨u,rfl,ru⟩:=vals1 r;cases ru;obtain ⟨its,rv,co⟩:=I.sq hq;have hl:its.length=ns.length:=by have:=rv.length;simp at this;omega
 have hn:0<ns.length:=_b2.mpr hne;refine call_max_walk (z7f (I.ok.hd hc) co fun s2 e2 St W st bd old=>?_);subst e2;refine ⟨_,_,_,_,_,_,_,rfl,W,st,bd,by simpa [hl] using hn,CmpOf.ints_gt (fun i=>ns.getD i 0) (fun i v e=>let ⟨t,e1,_⟩:=z4M rv e;⟨t,e1⟩),fun v h' tk e hk=>?_⟩;obtain ⟨t,e1,lt⟩:=z4M rv e;obtain ⟨h1,h2⟩:=argBest_gt (fun i=>ns.getD i 0) (its.toArray.size-1);have em:ns.getD (argBest (fun i j=>decide (ns.getD i 0 > ns.getD j 0)) (its.toArray.size-1)) 0=maxL ns:=by
  refine Int.le_antisymm (maxL_ge _ ?_) ?_;·exact getD_in lt
  ·obtain ⟨j,hj,ej⟩:=_E.mp (maxL_mem hne);have:=h2 j (by simp [hl];omega);simp only [List.getD,_f hj,_aH,ej] at this;simpa [List.getD] using this
 rw [e1,em];exact ⟨.int (maxL ns),H,I.kept (t':=tk) (old h' hk),⟨t,rfl⟩,q⟩
theorem z9C (hc:X.calm=true):xD X (.builtin "min") (fun xs H Q=>∃ b p ns,xs=[.ref p]/\Sq b X.K H p (ns.map V.int)/\ns≠[]/\Q (.int (minL ns)) H):=by
 intro pins s O H xs us Q I r h;obtain ⟨b,p,ns,rfl,hq,hne,q⟩:=h;obtain ⟨u,rfl,ru⟩:=vals1 r;cases ru;obtain ⟨its,rv,co⟩:=I.sq hq;have hl:its.length=ns.length:=by have:=rv.length;simp at this;omega
 have hn:0<ns.length:=_b2.mpr hne;refine call_min_walk (z7f (I.ok.hd hc) co fun s2 e2 St W st bd old=>?_);subst e2;refine ⟨_,_,_,_,_,_,_,rfl,W,st,bd,by simpa [hl] using hn,CmpOf.ints_lt (fun i=>ns.getD i 0) (fun i v e=>let ⟨t,e1,_⟩:=z4M rv e;⟨t,e1⟩),fun v h' tk e hk=>?_⟩;obtain ⟨t,e1,lt⟩:=z4M rv e;obtain ⟨h1,h2⟩:=argBest_lt (fun i=>ns.getD i 0) (its.toArray.size-1);have em:ns.getD (argBest (fun i j=>decide (ns.getD i 0<ns.getD j 0)) (its.toArray.size-1)) 0=minL ns:=by
  refine Int.le_antisymm ?_ (minL_le _ ?_)
  ·obtain ⟨j,hj,ej⟩:=_E.mp (minL_mem hne);have:=h2 j (by simp [hl];omega);simp only [List.getD,_f hj,_aH,ej] at this;simpa [List.getD] using this
  ·exact getD_in lt
 rw [e1,em];exact ⟨.int (minL ns),H,I.kept (t':=tk) (old h' hk),⟨t,rfl⟩,q⟩
theorem all_range{bs:List Bool}:(List.range bs.length).all (fun i=>bs.getD i false)=bs.all id:=by
 rw [Bool.eq_iff_iff];simp only [_L,_az,id];constructor
 ·intro h x hx;obtain ⟨j,hj,ej⟩:=_E.mp hx;have:=h j hj;simpa [List.getD,hj,ej] using this
 ·intro h i hi;simp only [List.getD,_f hi,_aH];exact h _ (_V _)
theorem zag (hc:X.calm=true):xD X (.builtin "all") (fun xs H Q=>∃ (b:Bool) (p:Addr) (bs:List Bool),xs=[.ref p]/\Sq b X.K H p (bs.map V.bl)/\Q (.bl (bs.all id)) H):=by
 intro pins s O H xs us Q I r h;obtain ⟨b,p,bs,rfl,hq,q⟩:=h;obtain ⟨u,rfl,ru⟩:=vals1 r;cases ru;obtain ⟨its,rv,co⟩:=I.sq hq;have hl:its.length=bs.length:=by have:=rv.length;simp at this;omega
 refine call_all_walk (z7f (I.ok.hd hc) co fun s2 e2 St W st bd old=>?_);subst e2;refine ⟨_,_,_,_,_,_,fun i=>bs.getD i false,rfl,W,st,fun i v s3 Q3 E3 e q3=>?_,fun h' tk hk=>?_⟩
 ·have e':its[i]? = some v:=by simpa using e
  have hi:i<bs.length:=by have:=(_c.mp e').1;omega
  obtain ⟨u,hu,ru⟩:=rv.get (i:=i) (x:=V.bl bs[i]) (by simp [hi]);rw [e'] at hu;cases hu;cases ru;have:bs.getD i false=bs[i]:=by simp [List.getD,hi]
  have q3:Q3 (bs.getD i false) s3:=q3;rw [this] at q3;exact _aA q3
 ·have ez:its.toArray.size=bs.length:=by simp [hl]
  rw [ez,all_range];exact ⟨.bl (bs.all id),H,I.kept (t':=tk) (old h' hk),rfl,q⟩
end
end L2
namespace L2
theorem z73{X:Cx}:xD X (.builtin "isinstance") (fun xs H Q=>∃ x t T b,xs=[x,.ty T]/\z6l X.K H x t/\W.kitOne X.K t (.type T)=some b/\Q (.bl b) H):=by
 intro pins s O H xs us Q I r h;obtain ⟨x,t,T,b,rfl,ht,hk,q⟩:=h;obtain ⟨u,v,rfl,ru,rv⟩:=vals2 r;cases rv;exact za2 I ru ht hk fun tk=>⟨.bl b,H,I.tok _,rfl,q⟩
end L2
namespace Dd
open L2
def tyD:D->Option String
 | .non=>some "NoneType" | .bl _=>some "bool" | .int _=>some "int" | .str _=>some "str" | .tup _=>some "tuple" | .lst _=>some "list" | .loc _=>some "list" | .dct=>some "dict" | _=>none
def isT(T t:String):Bool:=t==T||(T=="int"&&t=="bool")
def gIs(T:String):D->Sto->R D:=fun d s=>match tyD d with | some t=>.ok (.bl (isT T t)) s | none=>.no
theorem z7d{K:W.Frag}{t:String}(h:t∈["NoneType","bool","int","str","tuple","list","dict"])(T:String)(hT:T∈["int","bool","str","tuple","list"]):W.kitOne K (.type t) (.type T)=some (isT T t):=by
 have hh:t="NoneType"\/t="bool"\/t="int"\/t="str"\/t="tuple"\/t="list"\/t="dict":=by simpa using h
 have hh':T="int"\/T="bool"\/T="str"\/T="tuple"\/T="list":=by simpa using hT
 rcases hh with rfl | rfl | rfl | rfl | rfl | rfl | rfl<;>rcases hh' with rfl | rfl | rfl | rfl | rfl<;>kernel_rfl
theorem zdo{mg:Gm}{H:Hp}{Y:List Addr}{s:Sto}{d:D}{v:V}{t:String}(r:Rep mg H Y s)(dn:Den mg H Y d v)(e:tyD d=some t):z6l mg.K H v (.type t)/\t∈["NoneType","bool","int","str","tuple","list","dict"]:=by cases d with
 | non=>simp only [Den] at dn;subst dn;cases e;exact ⟨.non,by simp⟩ | bl b=>cases qI dn;cases e;exact ⟨.bl b,by simp⟩ | int b=>cases yd dn;cases e;exact ⟨.int b,by simp⟩ | str b=>cases uR dn;cases e;exact ⟨.str b,by simp⟩ | tup b=>
  cases e;simp only [Den] at dn;obtain ⟨a,vs,rfl,h1,_⟩:=dn;exact ⟨.tup h1,by simp⟩ | lst b=>
  cases e;simp only [Den] at dn;obtain ⟨a,o,vs,rfl,h1,_⟩:=dn;exact ⟨.frz h1,by simp⟩ | loc l=>
  cases e;simp only [Den] at dn;obtain ⟨a,rfl,h1,vs,h2⟩:=dn;exact ⟨.lst h2,by simp⟩ | dct=>
  cases e;simp only [Den] at dn;obtain ⟨a,rfl,h1⟩:=dn;exact ⟨.dK h1,by simp⟩ | _=>cases e
section
variable {X:Cx}{E:XK}{e a b c tg:Expr}{es:List Expr}{pos:Pos}{CX:CXT}
def eIs(T:String)(f:FE):FE:=fun Z s=>(f Z s).bind fun d s1=>gIs T d s1
theorem z6k{p p2:Pos}{T:String}{tn:Str}{f:FE}(hT:T∈["int","bool","str","tuple","list"])(hv:bootBuiltins tn=some (.type T))(hg:Gl X "isinstance")(hm:X.mg "isinstance"=none)(hg2:Gl X tn)(hm2:X.mg tn=none)(he:RE X E e f) (hn:tn≠"__name__":=by decide)(hd:(tn==("__debug__":Str))=false:=by decide) (hs:starEach [e,.Name tn p2] X.env=(false,eval e X.env)::starEach [.Name tn p2] X.env:=by rfl)(hpl:(backTo pos (starEach [.Name tn p2] X.env)).any (·.1)=false:=by rfl):RE X E (.Call (.Name "isinstance" p) [e,.Name tn p2] [] pos) (eIs T f):= zN (z07 z73 hg hm (by decide +kernel) (xM he (xM (z4e hg2 hm2 hv (show xK (.ty T) (.type T) from rfl) hn hd) jc) hs) (by decide) (by decide) hs hpl) fun O H Q ⟨Y,Z,s,r,en,h⟩=>by
  refine ya (k:=fun Z d s1=>gIs T d s1) r en h _ fun v H1 Y1 s1 d r1 en1 dn stp h1=>?_;unfold gIs at h1;split at h1
  ·rename_i t et;obtain ⟨q1,q2⟩:=zdo r1 dn et;exact ⟨v,.type t,T,isT T t,rfl,q1,z7d q2 T hT,okR.here (b:=V.bl (isT T t)) h1 r1 xJ⟩
  ·exact h1.elim
def zkC:List D->Sto->R D
 | [.int i],s=>.ok (.int (if i<0 then -i else i)) s | _,_=>.no
def intsOf:List D->Option (List Int)
 | []=>some [] | .int i::r=>(intsOf r).map (i::·) | _=>none
def bools:List D->Option (List Bool)
 | []=>some [] | .bl i::r=>(bools r).map (i::·) | _=>none
theorem kA:∀ {xs:List D}{ns:List Int},intsOf xs=some ns->xs=ns.map D.int
 | [],ns,h=>by simp [intsOf] at h;subst h;rfl | .int i::r,ns,h=>by
  simp only [intsOf,_W] at h;obtain ⟨ms,h1,rfl⟩:=h;rw [kA h1];rfl
theorem vz(ns:List Int):intsOf (ns.map D.int)=some ns:=by induction ns with
 | nil=>rfl | cons n ns ih=>simp [intsOf,ih]
theorem z1q:∀ {xs:List D}{ns:List Bool},bools xs=some ns->xs=ns.map D.bl
 | [],ns,h=>by simp [bools] at h;subst h;rfl | .bl i::r,ns,h=>by
  simp only [bools,_W] at h;obtain ⟨ms,h1,rfl⟩:=h;rw [z1q h1];rfl
theorem z5a(ns:List Bool):bools (ns.map D.bl)=some ns:=by induction ns with
 | nil=>rfl | cons n ns ih=>simp [bools,ih]
theorem kB{mg:Gm}{H:Hp}{Y:List Addr}:∀ {ns:List Int}{vs:List V},zA mg H Y (ns.map D.int) vs->vs=ns.map V.int
 | [],vs,h=>by simpa [zA] using h | n::ns,vs,h=>by
  simp only [_w,zA] at h;obtain ⟨v,r,rfl,h1,h2⟩:=h;cases yd h1;rw [kB h2];rfl
theorem z1o{mg:Gm}{H:Hp}{Y:List Addr}:∀ {ns:List Bool}{vs:List V},zA mg H Y (ns.map D.bl) vs->vs=ns.map V.bl
 | [],vs,h=>by simpa [zA] using h | n::ns,vs,h=>by
  simp only [_w,zA] at h;obtain ⟨v,r,rfl,h1,h2⟩:=h;cases qI h1;rw [z1o h2];rfl
def wR:List D->Sto->R D
 | [d],s=>match (zO s d).bind intsOf with | some (n::ns)=>.ok (.int (maxL (n::ns))) s | _=>.no
 | _,_=>.no
def z2J:List D->Sto->R D
 | [d],s=>match (zO s d).bind intsOf with | some (n::ns)=>.ok (.int (minL (n::ns))) s | _=>.no
 | _,_=>.no
def zbZ:List D->Sto->R D
 | [d],s=>match (zO s d).bind bools with | some ns=>.ok (.bl (ns.all id)) s | none=>.no
 | _,_=>.no
theorem za6{K:W.Frag}{H:Hp}{a:Addr}{vs:List V}(h:SqL K H a vs\/SqT K H a vs):∃ b,Sq b K H a vs:=h.elim (fun h=>⟨true,h⟩) fun h=>⟨false,h⟩
theorem z0z(hc:X.calm=true):∃ r,xD X (.builtin "max") r/\z04 X E r wR:=⟨_,zb3 hc,fun H Y s ds vs Q r hd h=>by
 unfold wR at h;split at h
 ·rename_i d;split at h
  ·rename_i n ns e;obtain ⟨xs,e1,e2⟩:=_by.mp e;have:=kA e2;subst this;obtain ⟨v,rfl,dn⟩:=z0a hd;obtain ⟨a,ws,rfl,q1,q2⟩:=qt (K:=X.K) r e1 dn;cases kB q2;obtain ⟨b,q⟩:=za6 q1;exact ⟨b,a,n::ns,rfl,q,by simp,h.here r yL⟩
  ·exact h.elim
 ·exact h.elim⟩
theorem zd1(hc:X.calm=true):∃ r,xD X (.builtin "min") r/\z04 X E r z2J:=⟨_,z9C hc,fun H Y s ds vs Q r hd h=>by
 unfold z2J at h;split at h
 ·rename_i d;split at h
  ·rename_i n ns e;obtain ⟨xs,e1,e2⟩:=_by.mp e;have:=kA e2;subst this;obtain ⟨v,rfl,dn⟩:=z0a hd;obtain ⟨a,ws,rfl,q1,q2⟩:=qt (K:=X.K) r e1 dn;cases kB q2;obtain ⟨b,q⟩:=za6 q1;exact ⟨b,a,n::ns,rfl,q,by simp,h.here r yL⟩
  ·exact h.elim
 ·exact h.elim⟩
theorem zgG(hc:X.calm=true):∃ r,xD X (.builtin "all") r/\z04 X E r zbZ:=⟨_,zag hc,fun H Y s ds vs Q r hd h=>by
 unfold zbZ at h;split at h
 ·rename_i d;split at h
  ·rename_i ns e;obtain ⟨xs,e1,e2⟩:=_by.mp e;have:=z1q e2;subst this;obtain ⟨v,rfl,dn⟩:=z0a hd;obtain ⟨a,ws,rfl,q1,q2⟩:=qt (K:=X.K) r e1 dn;cases z1o q2;obtain ⟨b,q⟩:=za6 q1;exact ⟨b,a,ns,rfl,q,h.here r xJ⟩
  ·exact h.elim
 ·exact h.elim⟩
def z1s:List D->List D->List D
 | x::xs,y::ys=>.tup [x,y]::z1s xs ys | _,_=>[]
theorem z2b:∀ (xs ys:List D),(z1s xs ys).length=min xs.length ys.length
 | [],ys=>by simp [z1s] | x::xs,[]=>by simp [z1s] | x::xs,y::ys=>by simp only [z1s,_i,z2b xs ys];omega
theorem z9l:∀ {xs ys:List D}{i:Nat}{d:D},(z1s xs ys)[i]? = some d->∃ x y,xs[i]? = some x/\ys[i]? = some y/\d=.tup [x,y]
 | [],ys,i,d,h=>by simp [z1s] at h | x::xs,[],i,d,h=>by simp [z1s] at h | x::xs,y::ys,0,d,h=>by simp [z1s] at h;exact ⟨x,y,by simp,by simp,h.symm⟩ | x::xs,y::ys,i+1,d,h=>by
  simp only [z1s,_h] at h;obtain ⟨a,b,h1,h2,h3⟩:=z9l h;exact ⟨a,b,by simpa using h1,by simpa using h2,h3⟩
def z8Q(s:Sto):D->Option (List D×List (Nat×List D))
 | .tup xs=>some (xs,[]) | .lst xs=>some (xs,[]) | .loc l=>(s[l]?).map fun xs=>(xs,[(l,xs)]) | _=>none
theorem z6O{mg:Gm}{H:Hp}{Y:List Addr}{s:Sto}{d:D}{xs:List D}{g:List (Nat×List D)}{v:V}(r:Rep mg H Y s)(h:z8Q s d=some (xs,g))(dn:Den mg H Y d v):okG g [] s/\∃ (b:Bool)(a:Addr),v=.ref a/\ ∀ H2 Y2 s2,wl mg H Y H2 Y2 s2->okG g [] s2->∃ ws,Sq b mg.K H2 a ws/\zA mg H2 Y2 xs ws:=by cases d with
 | tup ys=>
  cases h;obtain ⟨a,vs,rfl,q1,q2⟩:=uh (K:=mg.K) dn;refine ⟨(by intro p hp;simp at hp),false,a,rfl,fun H2 Y2 s2 stp _=>?_⟩;obtain ⟨a',ws,e,q3,q4⟩:=uh (K:=mg.K) (dn.mono stp);cases e;exact ⟨ws,q3,q4⟩ | lst ys=>
  cases h;obtain ⟨a,vs,rfl,q1,q2⟩:=zM (d:=.lst xs) r rfl dn;refine ⟨(by intro p hp;simp at hp),true,a,rfl,fun H2 Y2 s2 stp _=>?_⟩;obtain ⟨a',ws,e,q3,q4⟩:=zM (d:=.lst xs) stp.rep rfl (dn.mono stp);cases e;exact ⟨ws,.inl q3,q4⟩ | loc l=>
  simp only [z8Q,_W] at h;obtain ⟨ys,ey,e2⟩:=h;cases e2;obtain ⟨a,vs,rfl,q1,q2⟩:=zM (d:=.loc l) r ey dn;have og:okG [(l,xs)] [] s:=fun p hp=>by
   have:p=(l,xs):=by simpa using hp
   subst this;exact ey
  refine ⟨og,true,a,rfl,fun H2 Y2 s2 stp hg=>?_⟩;obtain ⟨a',ws,e,q3,q4⟩:=zM (d:=.loc l) stp.rep (hg (l,xs) (by simp)) (dn.mono stp);cases e;exact ⟨ws,.inl q3,q4⟩ | _=>cases h
def zdz(f:FA):FI:=fun Z s=>(f Z s).bind fun ds s1=>match ds with
 | [x,y]=>match z8Q s1 x,z8Q s1 y with
  | some p,some q=>.ok (z1s p.1 q.1,p.2++q.2) s1 | _,_=>.no
 | _=>.no
theorem zdN{p tp:Pos}{elts:List Expr}{kt:Nat}{f:FA}(hg:Gl X "zip")(hm:X.mg "zip"=none)(ha:RA X E [a,b] f)(hs:starEach [a,b] X.env=(false,eval a X.env)::starEach [b] X.env:=by rfl)(hpl:(backTo pos (starEach [b] X.env)).any (·.1)=false:=by rfl): RI X E (.Tuple elts kt tp) (.Call (.Name "zip" p) [a,b] [] pos) (zdz f):= z51 (zhn hg hm ha hs hpl) fun O H Q ⟨Y,Z,s,r,en,h⟩=>by
  unfold zdz at h;refine ⟨Y,Z,s,r,en,(okR.bind (Dn:=zA (gm X)) h).imp fun vs H1 ⟨Y1,s1,ds,stp,dn,h1⟩=>?_⟩;split at h1
  ·rename_i x y;split at h1
   ·rename_i p q ex ey;obtain ⟨xs,gx⟩:=p;obtain ⟨ys,gy⟩:=q;obtain ⟨v,v',rfl,d1,d2⟩:=z4U dn;obtain ⟨og1,b1,a1,rfl,k1⟩:=z6O stp.rep ex d1;obtain ⟨og2,b2,a2,rfl,k2⟩:=z6O stp.rep ey d2;obtain ⟨w1,q1,_⟩:=k1 H1 Y1 s1 (.refl stp.rep) og1;obtain ⟨w2,q2,_⟩:=k2 H1 Y1 s1 (.refl stp.rep) og2;refine ⟨a1,a2,b1,b2,rfl,⟨w1,q1⟩,⟨w2,q2⟩,h1.here stp.rep fun H2 Y2 s2 stp2 og i=>?_⟩;have h3:okG gx [] s2:=fun p hp=>og p (_aQ _ hp);have h4:okG gy [] s2:=fun p hp=>og p (_z _ hp);refine ⟨fun d hd=>?_,fun hl=>?_⟩
    ·obtain ⟨x,y,e1,e2,rfl⟩:=z9l hd;obtain ⟨w1,q1,n1⟩:=k1 H2 Y2 s2 stp2 h3;obtain ⟨w2,q2,n2⟩:=k2 H2 Y2 s2 stp2 h4;obtain ⟨u1,g1,m1⟩:=n1.get e1;obtain ⟨u2,g2,m2⟩:=n2.get e2;refine ⟨⟨w1,w2,u1,u2,q1,q2,g1,g2⟩,fun z H' ⟨T,p,q,hT,ez,eH,hp,hq⟩=>?_⟩;subst ez eH;have e3:=hp w1 q1;have e4:=hq w2 q2;rw [g1] at e3;rw [g2] at e4;cases e3;cases e4;have st3:=wl.lay (o:=.tup [u1,u2]) stp2.rep hT (by intro _ z;cases z);refine ⟨Y2,st3,?_⟩;simp only [Den];exact ⟨T,[u1,u2],rfl,yn,(zA.cons m1 (zA.one m2)).mono st3⟩
    ·obtain ⟨w1,q1,n1⟩:=k1 H2 Y2 s2 stp2 h3;obtain ⟨w2,q2,n2⟩:=k2 H2 Y2 s2 stp2 h4;refine ⟨w1,w2,q1,q2,?_⟩;rw [n1.length,n2.length];simp only [z2b] at hl;omega
   ·exact h1.elim
  ·exact h1.elim
end
def xl(mp:List (Option Nat))(Z:Ev):Ev:=mp.map fun o=>match o with | some j=>(Z[j]?).getD none | none=>none
theorem ux.inner{mg:Gm}{H:Hp}{Y:List Addr}{Z:Ev}{O:L2.St}{mp:List (Option Nat)}(en:ux mg H Y Z O):ux mg H Y (xl mp Z) (inner mp O):=by
 refine ⟨by simp [xl,L2.inner],fun i d h=>?_⟩;simp only [xl,_Z,_W] at h;obtain ⟨o,h1,h2⟩:=h;cases o with
 | none=>cases h2 | some j=>
  simp only at h2;have h3:Z[j]? = some (some d):=by cases e:Z[j]? with
   | none=>rw [e] at h2;cases h2 | some x=>rw [e] at h2;simp at h2;rw [h2]
  obtain ⟨v,h4,h5⟩:=en.at_ j d h3;exact ⟨v,by simp [L2.inner,h1,h4],h5⟩
open Classical in
def wq(g:List (Nat×List D))(all:List D)(body:D->Sto->R (Option D)):List D->List D->Sto->R (List D)
 | [],acc,s=>if okG g all s then .ok acc s else .no | x::xs,acc,s=>if okG g all s then (body x s).bind fun o s1=>match o with
   | some d=>if acc.length<cap then wq g all body xs (acc++[d]) s1 else .no | none=>wq g all body xs acc s1 else .no
def z6n(fi:FI)(mp:List (Option Nat))(fg:FG)(ft:FT)(fe:FE):FA:=fun Z s=>(fi Z s).bind fun it s1=>wq it.2 it.1 (fun d s=>(fg d (xl mp Z) s).bind fun Z' s'=>(ft Z' s').bind fun b s2=>if b=true then (fe Z' s2).bind fun d s3=>.ok (some d) s3 else .ok none s2) it.1 [] s1
def z1N(mg:Gm)(E:XK)(mp:List (Option Nat))(g:TG)(fg:FG):Prop:=∀ (O:L2.St) H Y Z s x d (Q:L2.St->Hp->Prop),Rep mg H Y s->ux mg H Y (xl mp Z) (inner mp O)->Den mg H Y d x->okR mg E H Y (ux mg) (fg d (xl mp Z) s) Q-> g x (inner mp O) H (fun O2 H2=>(O2.length=(inner mp O).length/\∀ (i:Nat) v,(inner mp O)[i]? = some (some v)->O2[i]? = some (some v))/\Q O2 H2)
theorem z20{mp:List (Option Nat)}{i:Nat}(h:mp[i]? = some none)(O:L2.St):(inner mp O)[i]? = some none:=by simp [L2.inner,h]
theorem z3I{O:L2.St}{i:Nat}{v:V}(h:O[i]? = some none):(O.set i (some v)).length=O.length/\∀ (j:Nat) u,O[j]? = some (some u)->(O.set i (some v))[j]? = some (some u):=by
 refine ⟨by simp,fun j u e=>?_⟩;have:i≠j:=fun z=>by subst z;rw [h] at e;cases e
 rw [_K this];exact e
section
variable {X:Cx}{E:XK}{e a b c tg iter elt:Expr}{es:List Expr}{pos:Pos}{CX:CXT}{mp:List (Option Nat)}
theorem xm(i:Nat)(h:mp[i]? = some none):z1N (gm X) E mp (z8o i) (vw i):=fun O H Y Z s x d Q r en dn ok=>by
 refine ⟨z3I (z20 h O),?_⟩;exact okR.here (b:=(inner mp O).set i (some x)) ok r (en.set dn i)
theorem z09{fi:FI}{g:TG}{fg:FG}{ft:FT}{fe:FE}{O:L2.St}{H:Hp}{Q:VK}{Y:List Addr}{Z:Ev}{s:Sto}{β:Type}{kR:List D->Sto->R β}{β2:Type}{Dn:Hp->List Addr->β->β2->Prop}{Q2:β2->Hp->Prop}(hg:z1N (gm X) E mp g fg)(r:Rep (gm X) H Y s)(en:ux (gm X) H Y Z O) (h:okR (gm X) E H Y Dn ((z6n fi mp fg ft fe Z s).bind kR) Q2) (fin:∀ H1 Y1 s1 xs vs,Rep (gm X) H1 Y1 s1->ux (gm X) H1 Y1 Z O->zA (gm X) H1 Y1 xs vs->okR (gm X) E H1 Y1 Dn (kR xs s1) Q2->xs.length<=cap->∀ p,H1 p=none->Q (.ref p) (upd H1 p (.lst vs))): zb9 (tI (gm X) E fi) mp g (tT (gm X) E ft) (tE (gm X) E fe) O H Q:=by
 unfold z6n at h;have assoc:∀ {α γ δ:Type}(x:R α)(f:α->Sto->R γ)(k:γ->Sto->R δ),(x.bind f).bind k=x.bind fun a s=>(f a s).bind k:=fun x f k=>by cases x<;>rfl
 rw [assoc] at h;refine ⟨Y,Z,s,r,en,(okR.bind (Dn:=zf3 (gm X)) h).imp fun J H1 ⟨Y1,s1,it,stp,ok,h1⟩=>?_⟩;obtain ⟨items,gd⟩:=it;simp only at h1;refine ⟨fun i m ys H=>∃ Y s acc,wl (gm X) H1 Y1 H Y s/\zA (gm X) H Y acc ys/\acc.length<=cap/\m=items.length-i/\i<=items.length/\ okR (gm X) E H Y Dn ((wq gd items (fun d s=>(fg d (xl mp Z) s).bind fun Z' s'=>(ft Z' s').bind fun b s2=>if b=true then (fe Z' s2).bind fun d s3=>.ok (some d) s3 else .ok none s2) (items.drop i) acc s).bind kR) Q2, ⟨items.length,Y1,s1,[],.refl stp.rep,zA.nil,_aj _,by simp,_aj _,by simpa using h1⟩,?_⟩;rintro i m ys H2 ⟨Y2,s2,acc,stp2,dn2,hcap,rfl,hil,h2⟩;have en2:ux (gm X) H2 Y2 Z O:=(en.mono stp).mono stp2;by_cases hlt:i<items.length
 ·right;rw [_av hlt,wq] at h2;split at h2
  ·rename_i hG;obtain ⟨go,yl⟩:=((ok H2 Y2 s2 stp2 hG i).1 items[i] (_f hlt));refine ⟨go,fun x H' y=>?_⟩;obtain ⟨Y3,stp3,dn3⟩:=yl x H' y;have h3:=okR.rebase h2 stp3;rw [assoc,assoc] at h3;have h4:=okR.bind (Dn:=ux (gm X)) h3;refine hg O H' Y3 Z s2 x items[i] _ stp3.rep ((en2.mono stp3).inner) dn3 (h4.imp fun O4 H4 ⟨Y4,s4,Z4,stp4,en4,h5⟩=>?_);rw [assoc] at h5;refine ⟨Y4,Z4,s4,stp4.rep,en4,(okR.bind (Dn:=bD) h5).imp fun bb H5 ⟨Y5,s5,b',stp5,eb,h6⟩=>?_⟩;cases (show b'=bb from eb);have all5:wl (gm X) H1 Y1 H5 Y5 s5:=((stp2.trans stp3).trans stp4).trans stp5;cases bb with
   | true=>
    rw [_d rfl] at h6 ⊢;rw [assoc] at h6;refine ⟨Y5,Z4,s5,stp5.rep,en4.mono stp5,(okR.bind (Dn:=Den (gm X)) h6).imp fun y H6 ⟨Y6,s6,d6,stp6,dn6,h7⟩=>?_⟩;simp only [Rb] at h7;split at h7
    ·rename_i hc;have all6:=all5.trans stp6;have dny:zA (gm X) H6 Y6 acc ys:=(((dn2.mono stp3).mono stp4).mono stp5).mono stp6;refine ⟨by rw [dn2.length];exact qG hcap,items.length-(i+1),by omega,Y6,s6,acc++[d6],all6,dny.append (zA.one dn6),by simp;omega,rfl,hlt,h7⟩
    ·exact h7.elim | false=>
    rw [_o (by decide)] at h6 ⊢;simp only [Rb] at h6;exact ⟨items.length-(i+1),by omega,Y5,s5,acc,all5,((dn2.mono stp3).mono stp4).mono stp5,hcap,rfl,hlt,h6⟩
  ·exact h2.elim
 ·left;have e:i=items.length:=by omega
  subst e;rw [List.drop_length,wq] at h2;split at h2
  ·rename_i hG;simp only [Rb] at h2;exact ⟨(ok H2 Y2 s2 stp2 hG _).2 (_j _),by rw [dn2.length];exact qG hcap,fin H2 Y2 s2 acc ys stp2.rep en2 dn2 h2 hcap⟩
  ·exact h2.elim
def zT(fi:FI)(mp:List (Option Nat))(fg:FG)(ft:FT)(fe:FE):FE:=fun Z s=>(z6n fi mp fg ft fe Z s).bind fun xs s1=>.ok (.lst xs) s1
def kL(fi:FI)(mp:List (Option Nat))(fg:FG)(ft:FT)(fe:FE):FE:=fun Z s=>(z6n fi mp fg ft fe Z s).bind fun xs s1=>if D.flat.flats xs=true then .ok (.loc s1.length) (s1++[xs]) else .no
def wS:FT:=fun _ s=>.ok true s
theorem wV{Yy:Cx}:z4S Yy [] (tT (gm Yy) E wS):=fun pins s O H Q I ⟨Y,Z,st,r,en,h⟩=>zcy pins s O H Q I (h.here (b:=true) r rfl)
theorem ul{Yy:Cx}{f:FT}(h:RT Yy E c f):z4S Yy [c] (tT (gm Yy) E f):=zcJ h
section
variable {scope:Scope}{ifs:List Expr}{fi:FI}{fg:FG}{ft:FT}{fe:FE}{g:TG}{spos py:Pos}
theorem zfN(N':List Str)(mp:List (Option Nat))(hc:X.calm=true)(hi:RI X E tg iter fi)(hg:∀ ex s H,PG (zw X N' scope ex s H) tg g)(hgt:z1N (gm X) E mp g fg)(ht:∀ ex s H,z4S (zw X N' scope ex s H) ifs (tT (gm X) E ft))(he:∀ ex s H,RE (zw X N' scope ex s H) E elt fe) (hkd:scope.kind=.function)(hnm:∀ y∈scope.names,scope.names.lookup y.1=some y.2) (hfr:∀ y∈scope.names,y.2=.free->X.env.kindOf y.1=some .cell\/X.env.kindOf y.1=some .free)(hmp:z1n X.N scope.names N' mp=true) (hs:∀ x,foldedSetIterable iter X.env x=pure x:=by intro _;rfl):RE X E (.ListComp elt [⟨tg,iter,ifs,0⟩] scope pos) (zT fi mp fg ft fe):= zN (zae (te:=tE (gm X) E fe) N' mp hc hi hg ht (fun ex s H=>he ex s H) hkd hnm hfr hmp hs).freeze fun O H Q ⟨Y,Z,s,r,en,h⟩=> z09 hgt r en h fun H1 Y1 s1 xs vs r1 en1 dn h1 hcap=>uA r1 h1 dn
theorem z8v {i:Nat} {y:Str} (N':List Str) (mp:List (Option Nat)) (hN:X.N.Nodup) (hc:X.calm=true) (hi:RI X E tg iter fi) (hg:∀ ex s H,PG (zw X N' scope ex s H) tg g) (hgt:z1N (gm X) E mp g fg) (ht:∀ ex s H,z4S (zw X N' scope ex s H) ifs (tT (gm X) E ft)) (he:∀ ex s H,RE (zw X N' scope ex s H) E elt fe) (hkd:scope.kind=.function) (hnm:∀ y∈scope.names,scope.names.lookup y.1=some y.2) (hfr:∀ y∈scope.names,y.2=.free->X.env.kindOf y.1=some .cell\/X.env.kindOf y.1=some .free) (hmp:z1n X.N scope.names N' mp=true) (hy:X.N[i]? = some y:=by rfl) (hyl:Loc X.env.scope y:=by first | exact Or.inl rfl | exact Or.inr rfl) (hs:∀ x,foldedSetIterable iter X.env x=pure x:=by intro _;rfl) (hsw:swapsWith (.ListComp elt [⟨tg,iter,ifs,0⟩] scope pos) (some (.Name y py)) spos.line X.env=pure true:=by rfl) (hf:X.fn y=true\/X.env.scope.names.lookup y=some .local:=by first | exact .inl rfl | exact .inr rfl | assumption): RS X E (.Assign [.Name y py] (.ListComp elt [⟨tg,iter,ifs,0⟩] scope pos) spos) (xY i (zT fi mp fg ft fe)):= vQ (z6v (te:=tE (gm X) E fe) N' mp hN hy hyl hc hi hg ht (fun ex s H=>he ex s H) hkd hnm hfr hmp hs hsw hf) fun D O H ⟨Y,Z,s,r,en,h⟩=>by
  have assoc:∀ {α γ δ:Type} (x:R α) (f:α->Sto->R γ) (k:γ->Sto->R δ),(x.bind f).bind k=x.bind fun a s=>(f a s).bind k:=fun x f k=>by cases x<;>rfl
  unfold xY zT at h;rw [assoc] at h;refine z09 hgt r en h fun H1 Y1 s1 xs vs r1 en1 dn h1 hcap p hp=>?_;refine uA (E:=E) (mg:=gm X) (xs:=xs) r1 (fun v H2 Y2 stp dn2=>?_) dn p hp;exact h1 (.nx (O.set i (some v))) H2 Y2 stp ((en1.mono stp).set dn2 i)
theorem z8X{i:Nat}{y:Str}(N':List Str)(mp:List (Option Nat))(hN:X.N.Nodup)(hc:X.calm=true)(hi:RI X E tg iter fi)(hg:∀ ex s H,PG (zw X N' scope ex s H) tg g)(hgt:z1N (gm X) E mp g fg)(ht:∀ ex s H,z4S (zw X N' scope ex s H) ifs (tT (gm X) E ft))(he:∀ ex s H,RE (zw X N' scope ex s H) E elt fe) (hkd:scope.kind=.function)(hnm:∀ y∈scope.names,scope.names.lookup y.1=some y.2) (hfr:∀ y∈scope.names,y.2=.free->X.env.kindOf y.1=some .cell\/X.env.kindOf y.1=some .free)(hmp:z1n X.N scope.names N' mp=true)(hy:X.N[i]? = some y:=by rfl)(hyl:Loc X.env.scope y:=by first | exact Or.inl rfl | exact Or.inr rfl) (hs:∀ x,foldedSetIterable iter X.env x=pure x:=by intro _;rfl) (hsw:swapsWith (.ListComp elt [⟨tg,iter,ifs,0⟩] scope pos) (some (.Name y py)) spos.line X.env=pure true:=by rfl) (hf:X.fn y=true\/X.env.scope.names.lookup y=some .local:=by first | exact .inl rfl | exact .inr rfl | assumption): RS X E (.Assign [.Name y py] (.ListComp elt [⟨tg,iter,ifs,0⟩] scope pos) spos) (xY i (kL fi mp fg ft fe)):= vQ (z8U (te:=tE (gm X) E fe) N' mp hN hy hyl hc hi hg ht (fun ex s H=>he ex s H) hkd hnm hfr hmp hs hsw hf) fun D O H ⟨Y,Z,s,r,en,h⟩=>by
  have assoc:∀ {α γ δ:Type}(x:R α)(f:α->Sto->R γ)(k:γ->Sto->R δ),(x.bind f).bind k=x.bind fun a s=>(f a s).bind k:=fun x f k=>by cases x<;>rfl
  unfold xY kL at h;rw [assoc] at h;refine z09 hgt r en h fun H1 Y1 s1 xs vs r1 en1 dn h1 hcap p hp=>?_;split at h1
  ·rename_i hf;have stp:=wl.layL (p:=p) r1 hp dn hf;refine h1 (.nx (O.set i (some (.ref p)))) _ _ stp ((en1.mono stp).set ?_ i);simp only [Den];exact ⟨p,rfl,by rw [<- r1.len];simp,vs,yn⟩
  ·exact h1.elim
end
end
section
variable {X:Cx}{E:XK}{e a b c tg iter elt:Expr}{es:List Expr}{pos:Pos}{CX:CXT}{mp:List (Option Nat)}
def zdI(K:W.Frag)(i j:Nat):TG:=zjx K 2 (zeE (z8o i) (zeE (z8o j) zjn))
theorem vZ(i j:Nat){x y:Str}{px py:Pos}{kt:Nat}(hc:X.calm=true)(hN:X.N.Nodup)(hi:X.N[i]? = some x:=by rfl)(hj:X.N[j]? = some y:=by rfl)(hx:Loc X.env.scope x:=by first | exact Or.inl rfl | exact Or.inr rfl)(hy:Loc X.env.scope y:=by first | exact Or.inl rfl | exact Or.inr rfl) (hf:X.fn x=true\/X.env.scope.names.lookup x=some .local:=by first | exact .inl rfl | exact .inr rfl | assumption)(hf':X.fn y=true\/X.env.scope.names.lookup y=some .local:=by first | exact .inl rfl | exact .inr rfl | assumption): PG X (.Tuple [.Name x px,.Name y py] kt pos) (zdI X.K i j):=zdx hc (z1u (yQ hN hi hx hf) (z1u (yQ hN hj hy hf') zaL))
theorem vP(i j:Nat)(hij:i≠j)(h:mp[i]? = some none)(h':mp[j]? = some none):z1N (gm X) E mp (zdI X.K i j) (wz i j):=fun O H Y Z s x d Q r en dn ok=>by
 unfold wz at ok;split at ok
 ·rename_i d1 d2;obtain ⟨p,vs,rfl,q1,q2⟩:=uh (K:=X.K) dn;obtain ⟨v1,v2,rfl,e1,e2⟩:=z4U q2;have k1:=z3I (v:=v1) (z20 h O);have own2:((inner mp O).set i (some v1))[j]? = some none:=by rw [_K hij];exact z20 h' O
  have k2:=z3I (v:=v2) own2;exact ⟨p,[v1,v2],rfl,q1,rfl,v1,[v2],rfl,v2,[],rfl,rfl,⟨k2.1.trans k1.1,fun l u e=>k2.2 l u (k1.2 l u e)⟩,okR.here ok r ((en.set e1 i).set e2 j)⟩
 ·exact ok.elim
end
def zq(N:List Str)(ds:List D):Ev:=ds.map some++List.replicate (N.length-ds.length) none
theorem jD{mg:Gm}{H:Hp}{Y:List Addr}{N:List Str}:∀ {ds:List D}{vs:List V},zA mg H Y ds vs->ux mg H Y (zq N ds) (L2.start N vs):=fun {ds vs} h=>by
 have hl:=h.length;refine ⟨by simp [zq,L2.start,hl],fun i d e=>?_⟩;unfold zq at e;have hi:i<ds.length:=by
  by_cases hi:i<ds.length;·exact hi
  ·rw [_aJ (by simpa using hi),_a0] at e;split at e<;>cases e
 rw [_v (by simpa using hi),_Z] at e;have e':ds[i]? = some d:=by cases q:ds[i]? with
  | none=>rw [q] at e;cases e | some x=>rw [q] at e;simp at e;rw [e]
 obtain ⟨v,h1,h2⟩:=h.get e';refine ⟨v,?_,h2⟩;unfold L2.start;rw [_v (by simpa [hl] using hi),_Z,h1];rfl
def Mof(N:List Str)(n:Nat)(fs:FS):Mir:=fun ds s=>if ds.length=n then (match fs (zq N ds) s with
 | .ok (.rt d) s'=>.ok d s' | .ok (.nx _) s'=>.ok .non s' | _=>.no) else .no
section
variable {P:Program}{w:World}{K:W.Frag}{mg:Str->Option Value}{base:Heap}
theorem Has.mono{CX:CXT}{x:Str}{n m:Nat}{M:Mir}(h:Has P w K mg base CX x n M)(hl:n<=m):Has P w K mg base CX x m M:=by
 obtain ⟨f,fd,ps,F,r⟩:=h;exact ⟨f,fd,ps,F.mono hl,r⟩
theorem zX{x qual:Str}{st:Stmt}{f:Addr}{fd:FuncData}{N ps:List Str}{k n:Nat}{fs:FS}(F:Fun K x qual st f fd)(hm:mg x=some (.ref f))(hb:Binds K fd ps [])(S:zt N ps (zg st))(hn:ps.length=n) (body:∀ (cdv:Value)(A:Around)(outer:List Env)(s:Shared)(H:Hp)(E:XK),z0k k (A.deeper (envOfC qual (zg st) s.heap.objs.size f cdv))->(z0F CX0 P w K mg base N qual (zg st) f cdv A outer s H E).nox.calm=true-> RSs (z0F CX0 P w K mg base N qual (zg st) f cdv A outer s H E).nox E0 (wY st) fs):Has P w K mg base CX0 x (k+1) (Mof N n fs):=by
 subst hn;refine ⟨f,fd,ps,F.ok S (fun vs H Q E h=>?_) (fun cdv A outer s H vs Q E hr h=>?_),hb,F.kp,hm⟩
 ·obtain ⟨Y,s,ds,_,dn,h⟩:=h;unfold Mof at h;split at h;·rename_i e;rw [dn.length];exact e
  ·exact h.elim
 ·obtain ⟨Y,st0,ds,r,dn,h⟩:=h;refine ⟨_,body cdv A outer s H E hr (by show A.handled.isNone=true;rw [show A.handled=none from hr.hd];rfl),Y,zq N ds,st0,r,jD dn,?_⟩;unfold Mof at h;split at h
  ·split at h
   ·rename_i d s' e;rw [e];intro fv H' Y' stp fd;cases fv with
    | rt v=>exact h v H' Y' stp fd | _=>exact (show False from fd).elim
   ·rename_i Z s' e;rw [e];intro fv H' Y' stp fd;cases fv with
    | nx v=>exact h .non H' Y' stp (by simp [Den]) | _=>exact (show False from fd).elim
   ·exact h.elim
  ·exact h.elim
theorem zh9{x qual:Str}{st:Stmt}{f:Addr}{fd:FuncData}{ps:List Str}(F:Fun K x qual st f fd)(hm:mg x=some (.ref f))(hb:Binds K fd ps []):Has P w K mg base CX0 x 0 (fun _ _=>.no):= ⟨f,fd,ps,⟨fun vs H Q E h=>by obtain ⟨_,_,_,_,_,h⟩:=h;exact h.elim,fun A outer s H args us vs Q E _ _ _ _ h=>by obtain ⟨_,_,_,_,_,h⟩:=h;exact h.elim⟩,hb,F.kp,hm⟩
end
def zeN(K:W.Frag):Sp:=fun vs H Q _=>∃ (a:Addr)(ns:List Int),vs=[.ref a]/\ziU H/\SqL K H a (ns.map V.int)/\ns.length<=63/\∀ H',Q (.bl true) H'
theorem z0T{mg:Gm}{H:Hp}{Y:List Addr}:∀ (ns:List Int),zA mg H Y (ns.map D.int) (ns.map V.int)
 | []=>zA.nil | n::ns=>zA.cons yL (z0T ns)
theorem zhp{P:Program}{w:World}{K:W.Frag}{mg:Str->Option Value}{base:Heap}{x:Str}{n:Nat}{M:Mir}{f:Addr}{fd:FuncData}{ps:List Str}(F:z47 P w K mg base CX0 n f fd ps (zcZ ⟨mg,K⟩ M)) (h:∀ ns:List Int,ns.length<=63->∃ s',M [.scr (ns.map D.int)] []=.ok (.bl true) s'):z47 P w K mg base CX0 n f fd ps (zeN K):= F.imp fun vs H Q E ⟨a,ns,e,ho,hq,hl,q⟩=>by
  subst e;obtain ⟨s',hs⟩:=h ns hl;refine ⟨[],[],[.scr (ns.map D.int)],⟨rfl,List.nodup_nil,fun l xs z=>by simp at z,fun xs z=>by simp at z⟩,zA.one ?_,?_⟩
  ·simp only [Den];refine ⟨a,ns.map V.int,rfl,?_,z0T ns⟩;rcases hq with (z | z) | z
   ·rcases ho a with y | ⟨o,xs,y⟩;·rw [y] at z;cases z
    ·rw [y] at z;cases z
   ·exact .inl z
   ·exact .inr z
  ·rw [hs];intro v H' Y' stp dn;cases qI dn;exact q H'
section
variable {X:Cx}{E:XK}{e a b c tg iter elt:Expr}{es:List Expr}{pos:Pos}{CX:CXT}
def z9a(f:FE):FE:=fun Z s=>(f Z s).bind fun d s1=>match d with | .int i=>.ok (.int (-i)) s1 | _=>.no
theorem z9W{f:FE}(h:RE X E a f):RE X E (.UnaryOp .USub a pos) (z9a f):= zN (zfa z9Y h) fun O H Q ⟨Y,Z,s,r,en,h⟩=>by
  refine ya (k:=fun Z d s1=>match d with | .int i=>R.ok (D.int (-i)) s1 | _=>.no) r en h _ fun v H1 Y1 s1 d r1 en1 dn stp h1=>?_;cases d with
  | int i=>
   cases yd dn;exact ⟨i,rfl,okR.here (b:=V.int (-i)) h1 r1 yL⟩ | _=>exact h1.elim
end
def isK(o:Option NameKind)(k:NameKind):Bool:=match o,k with
 | some .local,.local=>true | some .cell,.cell=>true | some .free,.free=>true | some .globalImplicit,.globalImplicit=>true | _,_=>false
theorem zak{o:Option NameKind}{k:NameKind}(h:isK o k=true):o=some k:=by cases o with
 | none=>cases k<;>simp [isK] at h | some j=>cases j<;>cases k<;>first | rfl | simp [isK] at h
def isF(k:NameKind):Bool:=match k with | .free=>true | _=>false
theorem zgc{k:NameKind}(h:k=.free):isF k=true:=by subst h;rfl
def z92(ko:Str->Option NameKind)(names:List (Str×NameKind)):Bool:=names.all fun y=>!isF y.2||(isK (ko y.1) .cell||isK (ko y.1) .free)
theorem kD{ko:Str->Option NameKind}{names:List (Str×NameKind)}(h:z92 ko names=true):∀ y∈names,y.2=.free->ko y.1=some .cell\/ko y.1=some .free:=fun y hy hf=>by
 have:=_L.mp h y hy;rw [zgc hf] at this;simp only [Bool.not_true,Bool.false_or,Bool.or_eq_true] at this;exact this.imp zak zak
def z8q(names:List (Str×NameKind)):Bool:=names.all fun y=>isK (names.lookup y.1) y.2
theorem kW{names:List (Str×NameKind)}(h:z8q names=true):∀ y∈names,names.lookup y.1=some y.2:=fun y hy=>by
 have:=_L.mp h y hy;exact zak this
section
variable {X:Cx}{E:XK}{e a b c tg iter elt:Expr}{es:List Expr}{pos:Pos}{CX:CXT}
variable {scope:Scope}{ifs:List Expr}{fi:FI}{fg:FG}{ft:FT}{fe:FE}{g:TG}{spos py:Pos}
theorem zjB{x:Str}{i:Int}(hg:Gl X x)(hm:∃ t,X.mg x=some (.int i t))(hd:(x==("__debug__":Str))=false:=by decide):RE X E (.Name x pos) (eC (.int i)):=let ⟨_,h⟩:=hm;zgR hg h hd
theorem xw(N':List Str)(mp:List (Option Nat))(hc:X.calm=true)(hi:RI X E tg iter fi)(hg:∀ ex s H,PG (zw X N' scope ex s H) tg g)(hgt:z1N (gm X) E mp g fg)(ht:∀ ex s H,z4S (zw X N' scope ex s H) ifs (tT (gm X) E ft))(he:∀ ex s H,RE (zw X N' scope ex s H) E elt fe) (hkd:scope.kind=.function:=by rfl)(hnm:z8q scope.names=true:=by rfl)(hfr:z92 X.env.kindOf scope.names=true:=by rfl)(hmp:z1n X.N scope.names N' mp=true:=by rfl) (hs:∀ x,foldedSetIterable iter X.env x=pure x:=by intro _;rfl):RE X E (.ListComp elt [⟨tg,iter,ifs,0⟩] scope pos) (zT fi mp fg ft fe):= zfN N' mp hc hi hg hgt ht he hkd (kW hnm) (kD hfr) hmp hs
theorem z9O(i:Nat){y:Str}(N':List Str)(mp:List (Option Nat))(hN:X.N.Nodup)(hc:X.calm=true)(hi:RI X E tg iter fi)(hg:∀ ex s H,PG (zw X N' scope ex s H) tg g)(hgt:z1N (gm X) E mp g fg)(ht:∀ ex s H,z4S (zw X N' scope ex s H) ifs (tT (gm X) E ft))(he:∀ ex s H,RE (zw X N' scope ex s H) E elt fe) (hkd:scope.kind=.function:=by rfl)(hnm:z8q scope.names=true:=by rfl)(hfr:z92 X.env.kindOf scope.names=true:=by rfl)(hmp:z1n X.N scope.names N' mp=true:=by rfl)(hy:X.N[i]? = some y:=by rfl)(hyl:Loc X.env.scope y:=by first | exact Or.inl rfl | exact Or.inr rfl) (hs:∀ x,foldedSetIterable iter X.env x=pure x:=by intro _;rfl) (hsw:swapsWith (.ListComp elt [⟨tg,iter,ifs,0⟩] scope pos) (some (.Name y py)) spos.line X.env=pure true:=by rfl) (hf:X.fn y=true\/X.env.scope.names.lookup y=some .local:=by first | exact .inl rfl | exact .inr rfl | assumption): RS X E (.Assign [.Name y py] (.ListComp elt [⟨tg,iter,ifs,0⟩] scope pos) spos) (xY i (zT fi mp fg ft fe)):= z8v N' mp hN hc hi hg hgt ht he hkd (kW hnm) (kD hfr) hmp hy hyl hs hsw hf
theorem zf2(i:Nat){y:Str}(N':List Str)(mp:List (Option Nat))(hN:X.N.Nodup)(hc:X.calm=true)(hi:RI X E tg iter fi)(hg:∀ ex s H,PG (zw X N' scope ex s H) tg g)(hgt:z1N (gm X) E mp g fg)(ht:∀ ex s H,z4S (zw X N' scope ex s H) ifs (tT (gm X) E ft))(he:∀ ex s H,RE (zw X N' scope ex s H) E elt fe) (hkd:scope.kind=.function:=by rfl)(hnm:z8q scope.names=true:=by rfl)(hfr:z92 X.env.kindOf scope.names=true:=by rfl)(hmp:z1n X.N scope.names N' mp=true:=by rfl)(hy:X.N[i]? = some y:=by rfl)(hyl:Loc X.env.scope y:=by first | exact Or.inl rfl | exact Or.inr rfl) (hs:∀ x,foldedSetIterable iter X.env x=pure x:=by intro _;rfl) (hsw:swapsWith (.ListComp elt [⟨tg,iter,ifs,0⟩] scope pos) (some (.Name y py)) spos.line X.env=pure true:=by rfl) (hf:X.fn y=true\/X.env.scope.names.lookup y=some .local:=by first | exact .inl rfl | exact .inr rfl | assumption): RS X E (.Assign [.Name y py] (.ListComp elt [⟨tg,iter,ifs,0⟩] scope pos) spos) (xY i (kL fi mp fg ft fe)):= z8X N' mp hN hc hi hg hgt ht he hkd (kW hnm) (kD hfr) hmp hy hyl hs hsw hf
end
theorem zgi{P:Program}{w:World}{K:W.Frag}{mg:Str->Option Value}{base:Heap}{x qual:Str}{st:Stmt}{f:Addr}{fd:FuncData}{N ps:List Str}{k n:Nat}{fs:FS}(F:Fun K x qual st f fd)(S:zt N ps (zg st))(hn:ps.length=n) (body:∀ (cdv:Value)(A:Around)(outer:List Env)(s:Shared)(H:Hp)(E:XK),z0k k (A.deeper (envOfC qual (zg st) s.heap.objs.size f cdv))->(z0F CX0 P w K mg base N qual (zg st) f cdv A outer s H E).nox.calm=true-> RSs (z0F CX0 P w K mg base N qual (zg st) f cdv A outer s H E).nox E0 (wY st) fs):z47 P w K mg base CX0 (k+1) f fd ps (zcZ ⟨mg,K⟩ (Mof N n fs)):=by
 subst hn;refine F.ok S (fun vs H Q E h=>?_) (fun cdv A outer s H vs Q E hr h=>?_)
 ·obtain ⟨Y,s,ds,_,dn,h⟩:=h;unfold Mof at h;split at h;·rename_i e;rw [dn.length];exact e
  ·exact h.elim
 ·obtain ⟨Y,st0,ds,r,dn,h⟩:=h;refine ⟨_,body cdv A outer s H E hr (by show A.handled.isNone=true;rw [show A.handled=none from hr.hd];rfl),Y,zq N ds,st0,r,jD dn,?_⟩;unfold Mof at h;split at h
  ·split at h
   ·rename_i d s' e;rw [e];intro fv H' Y' stp fd;cases fv with
    | rt v=>exact h v H' Y' stp fd | _=>exact (show False from fd).elim
   ·rename_i Z s' e;rw [e];intro fv H' Y' stp fd;cases fv with
    | nx v=>exact h .non H' Y' stp (by simp [Den]) | _=>exact (show False from fd).elim
   ·exact h.elim
  ·exact h.elim
section
variable {all xs:List D}{Z:Ev}{s:Sto}
theorem z4f{body:D->Ev->Sto->R Fl}(I:Ev->Sto->Prop):∀ (xs:List D),(∀ x∈xs,∀ Z s,I Z s->∃ Z' s',body x Z s=.ok (.nx Z') s'/\I Z' s')->∀ Z s,I Z s->∃ Z' s',xG [] all body xs Z s=.ok (.nx Z') s'/\I Z' s'
 | [],_,Z,s,h=>⟨Z,s,by simp [xG,okG],h⟩ | x::xs,hb,Z,s,h=>by
  obtain ⟨Z1,s1,e1,h1⟩:=hb x (by simp) Z s h;obtain ⟨Z2,s2,e2,h2⟩:=z4f I xs (fun y hy=>hb y (by simp [hy])) Z1 s1 h1;exact ⟨Z2,s2,by simp [xG,okG,e1,e2],h2⟩
theorem z5f{body:D->Sto->R (Option D)}(f:D->D):∀ (xs acc:List D),(∀ x∈xs,body x s=.ok (some (f x)) s)->acc.length+xs.length<=cap->wq [] all body xs acc s=.ok (acc++xs.map f) s
 | [],acc,_,_=>by simp [wq,okG] | x::xs,acc,hb,hl=>by
  have ih:=z5f f xs (acc++[f x]) (fun y hy=>hb y (by simp [hy])) (by simp at hl ⊢;omega);have hc:acc.length<cap:=by simp at hl;omega
  rw [wq];simp [okG,hb x (by simp),hc,ih]
end
section
variable (i j k n:Nat)(Z:Ev)(s:Sto)(f g fa fb fc:FE)(d x y:D)(ds:List D)(ar:FA)(op op':D->D->Sto->R D)(ft ft':FT)(fs fs':FS)(M:Mir)(T:String)(fl fh fo:FO)(fi:FI)(fg:FG)(mp:List (Option Nat))(N:List Str)
@[simp] theorem yg:zc i Z s=(match Z[i]? with | some (some d)=>.ok d s | _=>.no):=id rfl
@[simp] theorem kz:eC d Z s=.ok d s:=id rfl
@[simp] theorem yk:eOp op fa fb Z s=(fa Z s).bind fun x s1=>(fb Z s1).bind fun y s2=>op x y s2:=id rfl
@[simp] theorem yf:ze M ar Z s=(ar Z s).bind fun xs s1=>M xs s1:=id rfl
@[simp] theorem zG:zh Z s=.ok [] s:=id rfl
@[simp] theorem zo:za f ar Z s=(f Z s).bind fun x s1=>(ar Z s1).bind fun xs s2=>.ok (x::xs) s2:=id rfl
@[simp] theorem uC:wT ar Z s=(ar Z s).bind fun xs s1=>if xs.length<=cap then .ok (.tup xs) s1 else .no:=id rfl
@[simp] theorem z0O:jO ar Z s=(ar Z s).bind fun xs s1=>if xs.length<=cap then .ok (.lst xs) s1 else .no:=id rfl
@[simp] theorem z3z:zar ar Z s=(ar Z s).bind fun xs s1=>if xs.length<=cap/\D.flat.flats xs=true then .ok (.loc s1.length) (s1++[xs]) else .no:=id rfl
@[simp] theorem zkd:eIs T f Z s=(f Z s).bind fun d s1=>gIs T d s1:=id rfl
@[simp] theorem zd2:z9a f Z s=(f Z s).bind fun d s1=>match d with | .int i=>.ok (.int (-i)) s1 | _=>.no:=id rfl
@[simp] theorem zjf:zhM f Z s=(f Z s).bind fun x s1=>match x with | .bl k=>.ok (.bl (!k)) s1 | _=>.no:=id rfl
@[simp] theorem zhd:zbg fa fb Z s=(fa Z s).bind fun x s1=>match x with | .bl true=>fb Z s1 | .bl false=>.ok (.bl false) s1 | _=>.no:=id rfl
@[simp] theorem zgZ:eIf ft fa fb Z s=(ft Z s).bind fun x s1=>if x=true then fa Z s1 else fb Z s1:=id rfl
@[simp] theorem zb0:eSl f fl fh Z s=(f Z s).bind fun x s1=>(fl Z s1).bind fun lo s2=>(fh Z s2).bind fun hi s3=>dSl x lo hi s3:=id rfl
@[simp] theorem jb:yG Z s=.ok none s:=id rfl
@[simp] theorem z22:uu f Z s=(f Z s).bind fun d s1=>match d with | .int i=>.ok (some i) s1 | _=>.no:=id rfl
@[simp] theorem vq:tOf f Z s=(f Z s).bind fun d s1=>match d with | .bl k=>.ok k s1 | _=>.no:=id rfl
@[simp] theorem z6c:zbL ft ft' Z s=(ft Z s).bind fun x s1=>if x=true then ft' Z s1 else .ok false s1:=id rfl
@[simp] theorem zk9:fOr ft ft' Z s=(ft Z s).bind fun x s1=>if x=true then .ok true s1 else ft' Z s1:=id rfl
@[simp] theorem z12:z2c ft Z s=(ft Z s).bind fun x s1=>.ok (!x) s1:=id rfl
@[simp] theorem zhE:z8j op op' fa fb fc Z s=(fa Z s).bind fun x s1=>(fb Z s1).bind fun y s2=>(op x y s2).bind fun z s3=>match z with
 | .bl true=>(fc Z s3).bind fun w s4=>op' y w s4 | .bl false=>.ok (.bl false) s3 | _=>.no:=id rfl
@[simp] theorem z4Y:zy fs fs' Z s=(fs Z s).bind fun fl s1=>match fl with | .nx Z'=>fs' Z' s1 | fl=>.ok fl s1:=id rfl
@[simp] theorem ziq:xo Z s=.ok (.nx Z) s:=id rfl
@[simp] theorem zk8:fNo Z s=.no:=id rfl
@[simp] theorem wI:vm f Z s=(f Z s).bind fun _ s1=>.ok (.nx Z) s1:=id rfl
@[simp] theorem yI:wx f Z s=(f Z s).bind fun d s1=>.ok (.rt d) s1:=id rfl
@[simp] theorem z1a:fIf ft fs fs' Z s=(ft Z s).bind fun x s1=>if x=true then fs Z s1 else fs' Z s1:=id rfl
@[simp] theorem zW:xY i f Z s=(f Z s).bind fun d s1=>.ok (.nx (Z.set i (some d))) s1:=id rfl
@[simp] theorem z8b:zcM f fg Z s=(f Z s).bind fun d s1=>(fg d Z s1).bind fun Z' s2=>.ok (.nx Z') s2:=id rfl
@[simp] theorem zfZ:zj2 i j ar Z s=(ar Z s).bind fun ds s1=>match ds with | [x,y]=>.ok (.nx ((Z.set i (some x)).set j (some y))) s1 | _=>.no:=id rfl
@[simp] theorem z3w:vw i d Z s=.ok (Z.set i (some d)) s:=id rfl
@[simp] theorem zdJ:wz i j (.tup [x,y]) Z s=.ok ((Z.set i (some x)).set j (some y)) s:=id rfl
@[simp] theorem zf4:z2U fa fb fc Z s=(fc Z s).bind fun d s1=>(fa Z s1).bind fun o s2=>(fb Z s2).bind fun i s3=>match o,i with
 | .loc l,.int k=>match s3[l]? with
  | some xs=>match ixN xs.length k with
   | some j=>if d.flat=true then .ok (.nx Z) (s3.set l (xs.set j d)) else .no | none=>.no
  | none=>.no
 | _,_=>.no:=id rfl
@[simp] theorem z9R:wU f Z s=(f Z s).bind fun d s1=>match d with
 | .tup xs=>.ok (xs,[]) s1 | .lst xs=>.ok (xs,[]) s1 | .loc l=>match s1[l]? with | some xs=>.ok (xs,[(l,xs)]) s1 | none=>.no
 | _=>.no:=id rfl
@[simp] theorem zdr:z2K ar Z s=(ar Z s).bind fun ds s1=>match ds with
 | [.int j]=>if -(2 ^ 62)<=j/\j<2 ^ 62 then .ok (xO j.toNat,[]) s1 else .no | _=>.no:=id rfl
@[simp] theorem za0:zdz ar Z s=(ar Z s).bind fun ds s1=>match ds with
 | [x,y]=>match z8Q s1 x,z8Q s1 y with
  | some p,some q=>.ok (z1s p.1 q.1,p.2++q.2) s1 | _,_=>.no
 | _=>.no:=id rfl
@[simp] theorem z11:z9X fi fg fs Z s=(fi Z s).bind fun it s1=>xG it.2 it.1 (fun d Z s=>(fg d Z s).bind fun Z' s'=>fs Z' s') it.1 Z s1:=id rfl
@[simp] theorem jp:z6n fi mp fg ft f Z s=(fi Z s).bind fun it s1=>wq it.2 it.1 (fun d s=>(fg d (xl mp Z) s).bind fun Z' s'=>(ft Z' s').bind fun b s2=>if b=true then (f Z' s2).bind fun d s3=>.ok (some d) s3 else .ok none s2) it.1 [] s1:=id rfl
@[simp] theorem jF:zT fi mp fg ft f Z s=(z6n fi mp fg ft f Z s).bind fun xs s1=>.ok (.lst xs) s1:=id rfl
@[simp] theorem zbs:kL fi mp fg ft f Z s=(z6n fi mp fg ft f Z s).bind fun xs s1=>if D.flat.flats xs=true then .ok (.loc s1.length) (s1++[xs]) else .no:=id rfl
@[simp] theorem ziM:wS Z s=.ok true s:=id rfl
@[simp] theorem z3C:zai fa fb Z s=(fa Z s).bind fun o s1=>match o with
 | .loc l=>(fb Z s1).bind fun d s2=>match s2[l]? with
  | some xs=>if d.flat=true/\xs.length<cap then .ok .non (s2.set l (xs++[d])) else .no | none=>.no
 | _=>.no:=id rfl
@[simp] theorem zcY:xl [] Z=[]:=id rfl
@[simp] theorem zfx:xl (some i::mp) Z=(Z[i]?).getD none::xl mp Z:=id rfl
@[simp] theorem zfy:xl (none::mp) Z=none::xl mp Z:=id rfl
variable (a b:Int)(u v:Bool)(xs ys:List D)
@[simp] theorem zdb:vM (.int a) (.int b) s=.ok (.int (a+b)) s:=rfl
@[simp] theorem z5m:vM (.tup xs) (.tup ys) s=if xs.length+ys.length<=cap then .ok (.tup (xs++ys)) s else .no:=rfl
@[simp] theorem zdi:vM (.lst xs) (.lst ys) s=if xs.length+ys.length<=cap then .ok (.lst (xs++ys)) s else .no:=rfl
@[simp] theorem zcP:z9B (.int a) (.int b) s=.ok (.int (a-b)) s:=rfl
theorem zcW:ve (.int a) (.int b) s=if a.natAbs<BIG/\b.natAbs<BIG then .ok (.int (a*b)) s else .no:=by
 simp only [ve,dII,iOk];split<;>(rename_i h;split at h<;>simp_all)
theorem zaq:z5t (.int a) (.int b) s=if 0<b/\b.natAbs<BIG then .ok (.int (a / b)) s else .no:=by
 simp only [z5t,dII,iOk];split<;>(rename_i h;split at h<;>simp_all)
theorem zfR:zal (.int a) (.int b) s=if 0<b then .ok (.int (a % b)) s else .no:=by
 simp only [zal,dII,iOk];split<;>(rename_i h;split at h<;>simp_all)
theorem zaJ:z7R (.int a) (.int b) s=if 0<=b/\b<=1000/\a.natAbs<1000 then .ok (.int (a ^ b.toNat)) s else .no:=by
 simp only [z7R,dII,iOk];split<;>(rename_i h;split at h<;>simp_all)
@[simp] theorem zi5:dLt (.int a) (.int b) s=.ok (.bl (decide (a<b))) s:=rfl
@[simp] theorem zk6:dLe (.int a) (.int b) s=.ok (.bl (decide (a<=b))) s:=rfl
@[simp] theorem zi3:dGt (.int a) (.int b) s=.ok (.bl (decide (b<a))) s:=rfl
@[simp] theorem zil:dGe (.int a) (.int b) s=.ok (.bl (decide (b<=a))) s:=rfl
@[simp] theorem z8I:dEq (.int a) (.int b) s=.ok (.bl (decide (a=b))) s:=by
 have:eqD (.int a) (.int b)=decide (a=b):=by
  simp only [eqD,vO,PyData.eqv];rw [Bool.eq_iff_iff];simp
 rw [dEq,this];rfl
@[simp] theorem zeg:dNe (.int a) (.int b) s=.ok (.bl (decide (a≠b))) s:=by
 have:eqD (.int a) (.int b)=decide (a=b):=by
  simp only [eqD,vO,PyData.eqv];rw [Bool.eq_iff_iff];simp
 rw [dNe,this,_d (by constructor<;>rfl)];simp
@[simp] theorem zio:dEq (.bl u) (.bl v) s=.ok (.bl (u==v)) s:=by cases u<;>cases v<;>rfl
@[simp] theorem zjW:dNe (.bl u) (.bl v) s=.ok (.bl (u != v)) s:=by cases u<;>cases v<;>rfl
end
theorem zi{f g:FS}{Z Z':Ev}{s s':Sto}(h:f Z s=.ok (.nx Z') s'):zy f g Z s=g Z' s':=by simp [h]
theorem zaK{f g:FS}{Z:Ev}{s s':Sto}{d:D}(h:f Z s=.ok (.rt d) s'):zy f g Z s=.ok (.rt d) s':=by simp [h]
theorem z8d{all:List D}{body:D->Ev->Sto->R Fl}(I:Nat->Ev->Sto->Prop):∀ (xs:List D)(k:Nat),(∀ j x,xs[j]? = some x->∀ Z s,I (k+j) Z s->∃ Z' s',body x Z s=.ok (.nx Z') s'/\I (k+j+1) Z' s')-> ∀ Z s,I k Z s->∃ Z' s',xG [] all body xs Z s=.ok (.nx Z') s'/\I (k+xs.length) Z' s'
 | [],k,_,Z,s,h=>⟨Z,s,by simp [xG,okG],h⟩ | x::xs,k,hb,Z,s,h=>by
  obtain ⟨Z1,s1,e1,h1⟩:=hb 0 x (by simp) Z s h;obtain ⟨Z2,s2,e2,h2⟩:=z8d (all:=all) I xs (k+1) (fun j y hy Z s hi=>by
   have e:k+1+j=k+(j+1):=by omega
   rw [e] at hi ⊢;exact hb (j+1) y (by simpa using hy) Z s hi) Z1 s1 h1;refine ⟨Z2,s2,by simp [xG,okG,e1,e2],?_⟩;have e:k+(x::xs).length=k+1+xs.length:=by simp;omega
  rw [e];exact h2
theorem z61{n j:Nat}{x:D}(h:(xO n)[j]? = some x):j<n/\x=.int j:=by
 have hj:j<n:=by
  have:=(_c.mp h).1;simpa [xO] using this
 refine ⟨hj,?_⟩;simp only [xO,_Z,List.getElem?_range hj,_T,_p] at h;exact h.symm
theorem z91 {n:Nat} {x:D} (h:x∈xO n):∃ j:Nat,j<n/\x=.int j:=by
 obtain ⟨j,hj,e⟩:=_E.mp h;have:=z61 (n:=n) (j:=j) (x:=x) (by rw [_f hj,e]);exact ⟨j,this.1,this.2⟩
theorem yh:∀ (ns:List Int),D.flat.flats (ns.map D.int)=true
 | []=>rfl | n::ns=>by simp [D.flat.flats,D.flat,yh ns]
theorem kO(i:Int):(D.int i).flat=true:=rfl
theorem uK.flatten{mg:Gm}{H H':Hp}{Y Y':List Addr}{ys:List D}{c:Addr}(k:∀ b o,H b=some o->(∀ vs,o≠.lst vs)->(∀ kvs,o≠.dT kvs)->H' b=some o)(f:D.flat.flats ys=true)(e:H' c=H c)(h:uK mg H Y ys c):uK mg H' Y' ys c:=by
 rcases h with ⟨vs,h1,h2⟩ | ⟨kvs,h1,h2⟩ | ⟨o,kvs,ys,h1,h2⟩;·exact .inl ⟨vs,e.trans h1,h2.flatten k f⟩
 ·exact .inr (.inl ⟨kvs,e.trans h1,h2⟩)
 ·exact .inr (.inr ⟨o,kvs,ys,e.trans h1,h2⟩)
end Dd
namespace Zz
open PySem.AutoSeq1 (wpAny_loadPart')
section
variable {P:Program}{w:World}{A:Around}{E:Value->Shared->Prop}{s:Shared}
theorem zf6 {e it l:Addr} {b:Bool} {k:Nat} {xs:Array Value} {x old:Value} {Q:Option Value->Shared->Prop} (he:IsEnum s.heap e it k old) (h1:Sit b s.heap it l k) (c1:Sco b s.heap l xs) (ex:xs[k]? = some x) (ne:e≠it) (q:∀ h',IsEnumOut h' e it ((k:Int)+1) x s.heap.objs.size->Sit b h' it l (k+1)->h'.get? s.heap.objs.size=some {cls:=.type "tuple",data:=.seq #[.int k s.toks,x]}-> (∀ c o,c≠e->c≠it->s.heap.get? c=some o->h'.get? c=some o)->Q (some (.ref s.heap.objs.size)) {s with heap:=h',toks:=s.toks+1}):wpAny (model P w) A (pyNext (.ref e)) Q E s:=by
 have hT:s.TypeIs (.ref e) "enumerate":=⟨_,he,rfl⟩;unfold pyNext;refine _a (_cz (_O (name:=Str.ofString "__next__") hT _bb (_U _bb hT F.entry_enumerate_next (Q:=fun v s'=>wpAny (model P w) A (pure (some v)) Q E s') ?_ (F.args_enumerate_next_1 _))));obtain ⟨hp,g,d,tk,os⟩:=s;show wpAny _ _ (field (.ref e) 2 >>= _) _ _ _;refine _a (_C he rfl (x:=.ref it) rfl ?_);refine _a (nx h1 c1 ex fun g1 t1 s1=>?_);replace s1:Heap.SameBut it hp g1:=s1;have e1:IsEnum g1 e it k old:=(s1.2 e ne).trans he;show wpAny _ _ (field (.ref e) 3 >>= _) _ _ ⟨g1,g,d,tk,os⟩;refine _a (_C e1 rfl (x:=rawInt k) rfl ?_);show wpAny _ _ (field (.ref e) 4 >>= _) _ _ ⟨g1,g,d,tk,os⟩;refine _a (_C e1 rfl (x:=.none) rfl ?_);show wpAny _ _ (mkInt k >>= _) _ _ ⟨g1,g,d,tk,os⟩;refine _a (wpAny_mkInt ?_);show wpAny _ _ (setField (.ref e) 3 (rawInt ((k:Int)+1)) >>= _) _ _ ⟨g1,g,d,tk+1,os⟩;refine _a (_Q e1 (by simp) fun g2 e2 s2=>?_);replace s2:Heap.SameBut e g1 g2:=s2;replace e2:IsEnum g2 e it ((k:Int)+1) old:=e2;show wpAny _ _ (setField (.ref e) 4 .none >>= _) _ _ ⟨g2,g,d,tk+1,os⟩;refine _a (_Q e2 (by simp) fun g3 e3 s3=>?_);replace s3:Heap.SameBut e g2 g3:=s3;replace e3:IsEnum g3 e it ((k:Int)+1) old:=e3;show wpAny _ _ (newTuple [.int k tk,x] >>= _) _ _ ⟨g3,g,d,tk+1,os⟩;refine _a (_ci ?_);have e4:IsEnum (g3.push {cls:=.type "tuple",data:=.seq #[.int k tk,x]}) e it ((k:Int)+1) old:=_b _ e3;generalize hg4:g3.push {cls:=.type "tuple",data:=.seq #[.int k tk,x]}=g4 at e4;have sz:g3.objs.size=hp.objs.size:=by rw [s3.1,s2.1,s1.1]
 have el:e<hp.objs.size:=_m he;have t4:g4.get? hp.objs.size=some {cls:=.type "tuple",data:=.seq #[.int k tk,x]}:=by rw [<- hg4,<- sz];exact _n _ rfl
 have k4:∀ c o,c≠e->c≠it->hp.get? c=some o->g4.get? c=some o:=fun c o n1 n2 z=>by rw [<- hg4];exact _b _ (zu s3 n1 (zu s2 n1 (zu s1 n2 z)))
 have i4:Sit b g4 it l (k+1):=t1.to fun o z=>by rw [<- hg4];exact _b _ (zu s3 ne.symm (zu s2 ne.symm z))
 show wpAny _ _ (Builtin.SmallTypes.ownedTupleIsFree (.ref e) >>= _) _ _ ⟨g4,g,d,tk+1,os⟩;rw [sz];refine _a ?_;unfold Builtin.SmallTypes.ownedTupleIsFree;refine _a (_C e4 rfl (x:=.none) rfl (_g ?_));simp only [_A];refine _a (_cb ?_);refine _a (_C e4 rfl (x:=old) rfl ?_);refine _a (_Q e4 (by simp) fun g5 e5 s5=>?_);replace s5:Heap.SameBut e g4 g5:=s5;replace e5:IsEnum g5 e it ((k:Int)+1) x:=e5;show wpAny _ _ (Builtin.SmallTypes.ownedTupleHandOut (.ref e) (.ref hp.objs.size) >>= _) _ _ ⟨g5,g,d,tk+1,os⟩;refine _a ?_;unfold Builtin.SmallTypes.ownedTupleHandOut;refine _a (_Q e5 (by simp) fun g6 e6 s6=>?_);replace s6:Heap.SameBut e g5 g6:=s6;replace e6:IsEnumOut g6 e it ((k:Int)+1) x hp.objs.size:=e6;refine _Q e6 (by simp) fun g7 e7 s7=>?_;replace s7:Heap.SameBut e g6 g7:=s7;replace e7:IsEnumOut g7 e it ((k:Int)+1) x hp.objs.size:=e7;have up:∀ c o,c≠e->g4.get? c=some o->g7.get? c=some o:=fun c o n z=>zu s7 n (zu s6 n (zu s5 n z));refine _a (wpAny_letGo (_g ⟨_,rfl,_g (q g7 e7 (i4.to fun o z=>up _ o ne.symm z) (up _ _ (_b3 el) t4) fun c o n1 n2 z=>up c o n1 (k4 c o n1 n2 z))⟩))
theorem zhy {e it l:Addr} {b:Bool} {k:Nat} {xs:Array Value} {old:Value} {Q:Option Value->Shared->Prop} (hh:A.handled=none) (he:IsEnum s.heap e it k old) (h1:Sit b s.heap it l k) (c1:Sco b s.heap l xs) (ex:xs[k]? = none) (q:∀ h',Heap.ExtBut it s.heap h'->Q none {s with heap:=h'}):wpAny (model P w) A (pyNext (.ref e)) Q E s:=by
 have hT:s.TypeIs (.ref e) "enumerate":=⟨_,he,rfl⟩;unfold pyNext;refine _a (_cz (_O (name:=Str.ofString "__next__") hT _bb (_U _bb hT F.entry_enumerate_next ?_ (F.args_enumerate_next_1 _))));show wpAny _ _ (field (.ref e) 2 >>= _) _ _ _;refine _a (_C he rfl (x:=.ref it) rfl ?_);refine _a (z9L hh h1 c1 ex fun h' x he' hx'=>?_);obtain ⟨o,ho,hc⟩:=hx';refine _a (wpAny_isInstance (T:="StopIteration") (b:=true) ⟨o,ho,hc⟩ isSubtype_stop ?_);exact _g (q _ he')
end
theorem zcL(b:Bool)(l:Addr)(xs:Array Value): Meets (Builtin.«enumerate.__new__» ⟨[.type "enumerate",.ref l],[]⟩) (fun _ R s=>Sco b s.heap l xs/\R (.ok (.ret (.ref (s.heap.push (itO b l)).objs.size))) {s with heap:=(s.heap.push (itO b l)).push {cls:=.type "enumerate",data:=.fields #[.none,.bool false,.ref s.heap.objs.size,rawInt 0,.none,.none]}}):= .of_wp fun prog w A R s h=>by
  obtain ⟨hp,g,d,tk,os⟩:=s;obtain ⟨c1,h⟩:=h;have hsub:=sub_enumerate;have q1:Sco b (Shared.heap ⟨hp,g,d,tk,os⟩) l xs:=c1;obtain ⟨o,hl⟩:∃ o,hp.get? l=some o:=by cases b with
   | true=>obtain ⟨o,e,_⟩:=c1;exact ⟨o,e⟩ | false=>obtain ⟨o,e,_⟩:=c1;exact ⟨o,e⟩
  wp_walk using _X hl;refine wpAny_stack_any fun st=>_g ?_;split
  ·rename_i c _ _ _ _ _;cases (c==Value.type "enumerate")
   ·wp_walk using _X hl,z3g q1;exact ⟨_,rfl,h⟩
   ·wp_walk using _X hl,z3g q1;exact ⟨_,rfl,h⟩
  ·wp_walk using _X hl,z3g q1;exact ⟨_,rfl,h⟩
section
variable {P:Program}{w:World}{A:Around}{E:Value->Shared->Prop}{s:Shared}
theorem zeI {b:Bool} {l:Addr} {xs:Array Value} {Q:Value->Shared->Prop} (c1:Sco b s.heap l xs) (h:∀ h',IsEnum h' (s.heap.objs.size+1) s.heap.objs.size 0 .none->Sit b h' s.heap.objs.size l 0->(∀ c o,s.heap.get? c=some o->h'.get? c=some o)->Q (.ref (s.heap.objs.size+1)) {s with heap:=h'}): wpAny (model P w) A (call (.type "enumerate") [.ref l]) Q E s:=by
 refine callType_new F.called_enumerate (by decide) (F.typeCall_enumerate_1 _) (F.newCall_enumerate_1 _) (fun obj=>F.args_object_init_2 obj _) F.entry_enumerate_new (zcL b l xs) ⟨c1,?_⟩;have z1:(s.heap.push (itO b l)).objs.size=s.heap.objs.size+1:=_aa ..;have g2:=_n (s.heap.push (itO b l)) (o:={cls:=.type "enumerate",data:=.fields #[.none,.bool false,.ref s.heap.objs.size,rawInt 0,.none,.none]}) rfl;have g1:((s.heap.push (itO b l)).push {cls:=.type "enumerate",data:=.fields #[.none,.bool false,.ref s.heap.objs.size,rawInt 0,.none,.none]}).get? s.heap.objs.size=some (itO b l):=_b _ (_n _ (z1t b l));show _/\_;rw [z1] at g2;rw [z1];exact ⟨⟨_,g2,rfl⟩,h _ g2 (z5i g1) fun c o e=>_b _ (_b _ e)⟩
end
end Zz
namespace L2
open Zz
def Ite(K:W.Frag)(b:Bool)(l:Addr):It:= ⟨fun i H=>∃ xs x,Sq b K H l xs/\xs[i]? = some x, fun i H v H'=>∃ T x,H T=none/\v=.ref T/\H'=upd H T (.tup [.int i,x])/\∀ xs,Sq b K H l xs->xs[i]? = some x, fun i H=>∃ xs,Sq b K H l xs/\xs.length<=i⟩
theorem zaA {P:Program} {w:World} {K:W.Frag} {elts:List Expr} {kt:Nat} {tp:Pos} {b:Bool} {e it l:Addr} (ne:e≠it): zbW P w K (.Tuple elts kt tp) (Ite K b l) [e,it] e (fun i h=>(∃ old,IsEnum h e it ((i:Nat):Int) old)/\Sit b h it l i) where
 mem:=by simp
 obj:=fun i h ⟨⟨old,he⟩,h1⟩ c hc=>by
  have hc':c=e\/c=it:=by simpa using hc
  rcases hc' with rfl | rfl;·exact ⟨_,he,fun v z=>by simp at z⟩
  ·exact h1.ob
 keep:=fun i h h' ⟨⟨old,he⟩,h1⟩ k=>⟨⟨old,k e (by simp) _ he⟩,h1.to fun o z=>k it (by simp) o z⟩;item:=by
  intro X hP hw hK hc i pins s O H E I hf ⟨⟨old,he⟩,h1⟩ ⟨xs,x,qx,ex⟩;subst hP hw hK;obtain ⟨ix,rx,cx⟩:=I.sq qx;obtain ⟨u,hu,ru⟩:=rx.get ex;refine zf6 he h1 cx (x:=u) (by simpa using hu) ne fun g a1 a2 a3 hk=>⟨_,rfl,?_⟩;have I1:Inv X pins O H {s with heap:=g,toks:=s.toks+1}:=I.turnedL (t':=s.toks+1) (ch:=[e,it]) (fun c o n z=>hk c o (fun t=>n (by simp [t])) (fun t=>n (by simp [t])) z) hf;refine wpAny_letOwnedTupleGo_enum a1 fun g2 e2 s2=>?_;obtain ⟨f0,f1,f2,f3,f4,f5⟩:=hf e (by simp);have I2:Inv X pins O H {s with heap:=g2,toks:=s.toks+1}:=I1.turned (t':=s.toks+1) (fun c o n z=>zu s2 n z) f0 f1 f3 f4 f5;have new:z2z X pins H s.heap.objs.size:=I.fpOk (_j _) (I.hok.fresh (_j _));have el:e≠s.heap.objs.size:=_u (_m he);have p2:g2.get? s.heap.objs.size=some {cls:=.type "tuple",data:=.seq #[.int i s.toks,u]}:=zu s2 el.symm a3;refine ⟨.ref s.heap.objs.size,upd H s.heap.objs.size (.tup [.int i,x]),I2.track new ⟨?_,[.int i s.toks,u],.cons ⟨_,rfl⟩ (.cons ru .nil),⟨_,p2,rfl,rfl,_,rfl⟩⟩,rfl,⟨_,x,new.1,rfl,rfl,fun zs qz=>?_⟩,⟨⟨_,by simpa using e2⟩,a2.to fun o z=>zu s2 ne.symm z⟩,fun c hc=>?_⟩;·show 2<=sizeLine;decide
  ·rw [I.sq_inj qz qx];exact ex
  ·have hc':c=e\/c=it:=by simpa using hc
   have:c≠s.heap.objs.size:=by
    rcases hc' with rfl | rfl;·exact el
    ·exact _u h1.lt
   rw [zE this];exact (hf c hc).1
 done:=by
  intro X hP hw hK hc i pins s O H E I hf ⟨⟨old,he⟩,h1⟩ ⟨xs,qx,hl⟩;subst hP hw hK;obtain ⟨ix,rx,cx⟩:=I.sq qx;have lx:=rx.length;obtain ⟨f0,f1,f2,f3,f4,f5⟩:=hf it (by simp);exact zhy (I.ok.hd hc) he h1 cx (by simp;omega) fun g hk=>⟨rfl,I.turned (t':=s.toks) (fun c o n z=>hk c o n z) f0 f1 f3 f4 f5⟩
 self:=fun _ _ _ _ _ ⟨⟨_,he⟩,_⟩ h=>wpAny_pyIter_enum he h
theorem zek{X:Cx}{elts:List Expr}{kt:Nat}{tp:Pos}{a:Expr}{ta:TA}{p pos:Pos}(hg:Gl X "enumerate")(hm:X.mg "enumerate"=none)(ha:PA X [a] ta)(hs:starEach [a] X.env=(false,eval a X.env)::starEach [] X.env:=by rfl)(hpl:(backTo pos (starEach [] X.env)).any (·.1)=false:=by rfl): PI X (.Tuple elts kt tp) (.Call (.Name "enumerate" p) [a] [] pos) (fun O H R=>ta O H fun vs H1=>∃ l b,vs=[.ref l]/\(∃ xs,Sq b X.K H1 l xs)/\R (Ite X.K b l) H1):=by
 intro pins s O H R I h;refine _ar (z3y I hg hm (u:=.type "enumerate") (by decide +kernel) ?_ (by decide) (by decide));refine _aF (thn (ha pos pins s O H _ I h) fun us s1 ⟨vs,H1,I1,r1,q1⟩=>?_) hs hpl;obtain ⟨l,b,rfl,⟨xs,qx⟩,q⟩:=q1;obtain ⟨u,rfl,ru⟩:=vals1 r1;cases ru;obtain ⟨ix,rx,cx⟩:=I1.sq qx;refine zeI cx fun g he h1 hk=>?_;refine wpAny_pyIter_enum he ?_;refine ⟨_,_,_,_,H1,rfl,I1.kept (t':=s1.toks) hk,zaA (Nat.succ_ne_self _),⟨⟨_,he⟩,h1⟩,fun c hc=>?_,q⟩;have hc':s1.heap.objs.size<=c:=by
  have:c=s1.heap.objs.size+1\/c=s1.heap.objs.size:=by simpa using hc
  rcases this with rfl | rfl;·exact _bz _
  ·exact _j _
 exact I1.fpOk hc' (I1.hok.fresh hc')
end L2
namespace L2
end L2
namespace Dd
open L2
section
variable {X:Cx}{E:XK}{e a b c tg iter elt:Expr}{es:List Expr}{pos:Pos}{CX:CXT}
def zk0(i j k:Nat)(f:FA):FS:=fun Z s=>(f Z s).bind fun ds s1=>match ds with | [x,y,z]=>.ok (.nx (((Z.set i (some x)).set j (some y)).set k (some z))) s1 | _=>.no
def z2F:Nat->List D->List D
 | _,[]=>[] | i,x::xs=>.tup [.int i,x]::z2F (i+1) xs
theorem z0D:∀ (i:Nat)(xs:List D),(z2F i xs).length=xs.length
 | _,[]=>rfl | i,x::xs=>by simp [z2F,z0D (i+1) xs]
theorem z81:∀ {i k:Nat}{xs:List D}{d:D},(z2F i xs)[k]? = some d->∃ x,xs[k]? = some x/\d=.tup [.int ((i+k:Nat):Int),x]
 | _,_,[],_,h=>by simp [z2F] at h | i,0,x::xs,d,h=>by simp [z2F] at h;exact ⟨x,by simp,by simp [h]⟩ | i,k+1,x::xs,d,h=>by
  simp only [z2F,_h] at h;obtain ⟨y,h1,h2⟩:=z81 h;refine ⟨y,by simpa using h1,?_⟩;rw [h2,show i+1+k=i+(k+1) by omega]
def z8n(f:FA):FI:=fun Z s=>(f Z s).bind fun ds s1=>match ds with
 | [x]=>match z8Q s1 x with
  | some p=>.ok (z2F 0 p.1,p.2) s1 | none=>.no
 | _=>.no
theorem zdC{p tp:Pos}{elts:List Expr}{kt:Nat}{f:FA}(hg:Gl X "enumerate")(hm:X.mg "enumerate"=none)(ha:RA X E [a] f)(hs:starEach [a] X.env=(false,eval a X.env)::starEach [] X.env:=by rfl)(hpl:(backTo pos (starEach [] X.env)).any (·.1)=false:=by rfl): RI X E (.Tuple elts kt tp) (.Call (.Name "enumerate" p) [a] [] pos) (z8n f):= z51 (zek hg hm ha hs hpl) fun O H Q ⟨Y,Z,s,r,en,h⟩=>by
  unfold z8n at h;refine ⟨Y,Z,s,r,en,(okR.bind (Dn:=zA (gm X)) h).imp fun vs H1 ⟨Y1,s1,ds,stp,dn,h1⟩=>?_⟩;split at h1
  ·rename_i x;split at h1
   ·rename_i p ex;obtain ⟨xs,gx⟩:=p;obtain ⟨v,rfl,d1⟩:=z0a dn;obtain ⟨og1,b1,a1,rfl,k1⟩:=z6O stp.rep ex d1;obtain ⟨w1,q1,_⟩:=k1 H1 Y1 s1 (.refl stp.rep) og1;refine ⟨a1,b1,rfl,⟨w1,q1⟩,h1.here stp.rep fun H2 Y2 s2 stp2 og i=>⟨fun d hd=>?_,fun hl=>?_⟩⟩
    ·obtain ⟨x,e1,rfl⟩:=z81 hd;obtain ⟨w1,q1,n1⟩:=k1 H2 Y2 s2 stp2 og;obtain ⟨u1,g1,m1⟩:=n1.get e1;refine ⟨⟨w1,u1,q1,g1⟩,fun z H' ⟨T,p,hT,ez,eH,hp⟩=>?_⟩;subst ez eH;have e3:=hp w1 q1;rw [g1] at e3;cases e3;have st3:=wl.lay (o:=.tup [.int i,u1]) stp2.rep hT (by intro _ z;cases z);refine ⟨Y2,st3,?_⟩;simp only [Den,_ay];exact ⟨T,[.int i,u1],rfl,yn,(zA.cons yL (zA.one m1)).mono st3⟩
    ·obtain ⟨w1,q1,n1⟩:=k1 H2 Y2 s2 stp2 og;refine ⟨w1,q1,?_⟩;rw [n1.length];simpa only [z0D] using hl
   ·exact h1.elim
  ·exact h1.elim
end
end Dd
namespace L2
end L2
namespace Dd
open L2
def wB(ft:FT)(fb:FS):Nat->Ev->Sto->R Fl
 | 0,_,_=>.no | k+1,Z,s=>(ft Z s).bind fun b s1=>if b=true then (fb Z s1).bind fun fl s2=>match fl with
   | .nx Z'=>wB ft fb k Z' s2 | .ct Z'=>wB ft fb k Z' s2 | .bk Z'=>.ok (.nx Z') s2 | .rt d=>.ok (.rt d) s2 else .ok (.nx Z) s1
theorem z0m{ft:FT}{fb:FS}:∀ {k:Nat}{Z:Ev}{s:Sto},wB ft fb k Z s≠.no->wB ft fb (k+1) Z s=wB ft fb k Z s
 | 0,Z,s,h=>absurd rfl h | k+1,Z,s,h=>by
  rw [wB] at h ⊢;conv=>rhs;rw [wB]
  cases e:ft Z s with
  | no=>rfl | ex c t=>rfl | ok b s1=>
   rw [e] at h;simp only [Rb] at h ⊢;cases b with
   | false=>rfl | true=>
    rw [_d rfl] at h ⊢;rw [_d rfl];cases e2:fb Z s1 with
    | no=>rfl | ex c t=>rfl | ok fl s2=>
     rw [e2] at h;simp only [Rb] at h ⊢;cases fl with
     | nx Z'=>exact z0m h | ct Z'=>exact z0m h | bk Z'=>rfl | rt d=>rfl
theorem z7M{ft:FT}{fb:FS}{k m:Nat}{Z:Ev}{s:Sto}(h:wB ft fb k Z s≠.no)(hm:k<=m):wB ft fb m Z s=wB ft fb k Z s:=by induction hm with
 | refl=>rfl | step _ ih=>rw [z0m (by rw [ih];exact h),ih]
open Classical in
def z2l(ft:FT)(fb:FS):FS:=fun Z s=>if h:∃ k,wB ft fb k Z s≠.no then wB ft fb h.choose Z s else .no
theorem z4y{ft:FT}{fb:FS}{k:Nat}{Z:Ev}{s:Sto}{r:R Fl}(h:wB ft fb k Z s=r)(hr:r≠.no):z2l ft fb Z s=r:=by
 subst h;have hx:∃ k,wB ft fb k Z s≠.no:=⟨k,hr⟩;unfold z2l;rw [dif_pos hx];rcases Nat.le_total k hx.choose with z | z;·exact z7M hr z
 ·exact (z7M hx.choose_spec z).symm
theorem z6I {X:Cx} {E:XK} {c:Expr} {body:List Stmt} {pos:Pos} {ft:FT} {fb:FS} (hp:PassesOwn (model X.prog X.w) X.A X.env X.xe) (hc:RT X E c ft) (hb:RSs X E body fb):RS X E (.While c body [] pos) (z2l ft fb):= vQ (zcB hp hc hb) fun D O H ⟨Y,Z,s,r,en,h⟩=>by
  unfold z2l at h;split at h
  ·rename_i hx;refine ⟨fun m O H=>∃ Y Z s,Rep (gm X) H Y s/\ux (gm X) H Y Z O/\okR (gm X) E H Y (FlD (gm X)) (wB ft fb m Z s) (z2T D),⟨_,Y,Z,s,r,en,h⟩,?_⟩;rintro m O H ⟨Y,Z,s,r,en,h⟩;cases m with
   | zero=>exact h.elim | succ m=>
    rw [wB] at h;refine ⟨Y,Z,s,r,en,(okR.bind (Dn:=bD) h).imp fun b H1 ⟨Y1,s1,b',stp,eb,h1⟩=>?_⟩;cases (show b'=b from eb);cases b with
    | false=>
     rw [_o (by decide)] at h1 ⊢;exact okR.here (b:=FlV.nx O) (Q:=z2T D) h1 stp.rep (en.mono stp) | true=>
     rw [_d rfl] at h1 ⊢;refine ⟨fun O' H'=>∃ Y Z s,Rep (gm X) H' Y s/\ux (gm X) H' Y Z O'/\okR (gm X) E H' Y (FlD (gm X)) (wB ft fb m Z s) (z2T D),fun O' H' q=>⟨m,_a1 _,q⟩,Y1,Z,s1,stp.rep,en.mono stp,(okR.bind (Dn:=FlD (gm X)) h1).imp fun fv H2 ⟨Y2,s2,fl,stp2,dn,h2⟩=>?_⟩;cases fl with
     | nx Z'=> cases fv with
      | nx O'=>exact ⟨Y2,Z',s2,stp2.rep,dn,h2⟩ | _=>exact (show False from dn).elim
     | ct Z'=> cases fv with
      | ct O'=>exact ⟨Y2,Z',s2,stp2.rep,dn,h2⟩ | _=>exact (show False from dn).elim
     | bk Z'=> cases fv with
      | bk O'=>exact okR.here (b:=FlV.nx O') (Q:=z2T D) (a:=Fl.nx Z') (s:=s2) h2 stp2.rep dn | _=>exact (show False from dn).elim
     | rt d=> cases fv with
      | rt v=>exact okR.here (b:=FlV.rt v) (Q:=z2T D) (a:=Fl.rt d) (s:=s2) h2 stp2.rep dn | _=>exact (show False from dn).elim
  ·exact h.elim
end Dd
namespace PySem
open PySem.AutoSeq1 (wpAny_loadPart')
open MeetsSeq MeetsSeq2 SeqAt
theorem z8A{M:Model}{A:Around}{E:Value->Shared->Prop}{s:Shared}{β:Type}(f:Nat->β->Sem (ForInStep β))(I:Nat->β->Shared->Prop)(Q:β->Shared->Prop)(n:Nat) (turn:∀ i b s,i<n->I i b s->wpAny M A (f i b) (fun r s'=>match r with | .yield b'=>I (i+1) b' s' | .done b'=>Q b' s') E s) (fin:∀ b s,I n b s->Q b s)(b:β)(h:I 0 b s):wpAny M A (forIn ([0:n]:Std.Legacy.Range) b f) Q E s:=by
 rw [Std.Legacy.Range.forIn_eq_forIn_range'];simp only [Std.Legacy.Range.size,Nat.sub_zero,Nat.add_sub_cancel,Nat.div_one];refine wpAny_forIn_list f (fun uB b s'=>∃ i,uB=List.range' i (n-i)/\i<=n/\I i b s') _ ?_ ?_ _ _ ⟨0,by simp,_aj _,h⟩
 ·rintro x uB b s' ⟨i,hr,hi,hI⟩;have hlt:i<n:=by
   rcases Nat.lt_or_ge i n with h | h;·exact h
   ·rw [Nat.sub_eq_zero_of_le h] at hr;simp at hr
  obtain ⟨rfl,hrest⟩:x=i/\uB=List.range' (i+1) (n-(i+1)):=by
   have e:n-i=(n-(i+1))+1:=by omega
   rw [e,_cO] at hr;injection hr with h1 h2;exact ⟨h1,h2⟩
  refine _x (turn x b s' hlt hI) (fun r s2 hr=>?_) fun _ _ h'=>h';cases r with
  | done b'=>exact hr | yield b'=>exact ⟨x+1,hrest,hlt,hr⟩
 ·rintro b s' ⟨i,hr,hi,hI⟩;have:i=n:=by
   have:=_am List.length hr;simp at this;omega
  subst this;exact fin _ _ hI
theorem z2O (l:Addr) (items:Array Value) (n:Nat) (dd:Option Addr) (sl:Array (Option Value)) (x:Value) (e:Value->Bool) (j:Nat) (hj:j<items.size) (hit:e items[j]=true) (hno:∀ m (hm:m<items.size),m<j->e items[m]=false): Meets (Builtin.«tuple.index» ⟨[.ref l,x],[]⟩) (fun A R s=>s.heap.get? l=some {cls:=.type "tuple",dict:=dd,data:=.seq items n,slots:=sl}/\(∀ y,y∈items->EqAt A.in1 s y x (e y))/\R (.ok (.ret (.int j s.toks))) {s with toks:=s.toks+1}):= .of_wp fun prog w A R s h=>by
  obtain ⟨hp,g,d,tk,os⟩:=s;obtain ⟨hl,he,h⟩:=h;have hm:min items.size items.size=items.size:=Nat.min_self _;wp_walk using _X hl,z8A _ (fun i b s'=>b.1=none/\s'=⟨hp,g,d,tk,os⟩/\i<=j) _ _;case turn=>
   rintro i ⟨b1,b2⟩ s' hi ⟨hb,rfl,hij⟩;simp only at hb;subst hb;rw [hm] at hi;rw [Array.getElem?_eq_getElem hi];refine _a (he _ (Array.getElem_mem hi) prog w _ _ ?_);rcases Nat.lt_or_eq_of_le hij with lt | rfl
   ·rw [hno i hi lt];wp_walk;exact ⟨rfl,rfl,lt⟩
   ·rw [hit];wp_walk;exact ⟨_,rfl,h⟩
  case fin=>
   rintro ⟨b1,b2⟩ s' ⟨hb,rfl,hij⟩;rw [hm] at hij;omega
  case h=>exact ⟨rfl,rfl,_aj _⟩
end PySem
namespace L2
section
variable {X:Cx}{o e:Expr}{to:TE}{t:TA}{name:Str}{apos cpos:Pos}{id:String}{r:V->List V->Hp->VK->Prop}
theorem zfO(slot:Slot "tuple" name id)(hty:typeOf (.builtin id)=pure (.type "method_descriptor"))(hm:MtR X id r)(ho:PE X o to)(ha:PA X [e] t) (hbase:attributeBase o name X.env (eval o X.env)=eval o X.env:=by rfl) (hfew:((backTo cpos (starEach [e] X.env)).all (fun x=>!x.1)&&(backToKw cpos (keywordEach [] X.env)).all (fun x=>x.1.isSome) && decide ([e].length+([]:List Keyword).length+(if ([]:List Keyword).isEmpty then 0 else 1)<30))=true:=by rfl) (hline:(apos.endLine==cpos.line)=true:=by rfl)(hs:starEach [e] X.env=(false,eval e X.env)::starEach [] X.env:=by rfl)(hplain:(backTo cpos (starEach [] X.env)).any (·.1)=false:=by rfl): PE X (.Call (.Attribute o name apos) [e] [] cpos) (fun O H Q=>to O H fun x H1=>(∃ p vs,x=.ref p/\H1 p=some (.tup vs))/\t O H1 fun xs H2=>r x xs H2 Q):=by
 intro pins s O H Q I h;refine _bD hbase hfew hline rfl (thn (ho pins s O H _ I h) fun v s1 ⟨x,H1,I1,r1,ty,q1⟩=>?_);obtain ⟨p,vs,rfl,hp⟩:=ty;cases r1;obtain ⟨_,its,_,ob,e1,c1,d1,n,w1⟩:=I1.hok p _ hp;refine ⟨"tuple",id,PySem.F.plainAttrs_tuple,slot,hty,⟨ob,e1,c1⟩,fun a e=>?_,?_⟩
 ·cases e;exact ⟨ob,e1,d1⟩
 have hA:=ha cpos pins s1 O H1 _ I1 q1;rw [hs] at hA ⊢;refine _bE (by show (false||(backTo cpos (starEach [] X.env)).any (·.1))=false;rw [hplain]<;>rfl) (_bd ?_);exact thn hA fun us s2 ⟨vs,H2,I2,r2,q2⟩=>hm pins s2 O H2 (.ref p) vs _ us Q I2 rfl r2 q2
theorem z0v:∀ {ns:List Int}{its:List Value},yA (ns.map V.int) its->IntsAre its ns
 | [],_,.nil=>.nil | n::ns,_,.cons r rs=>by
  obtain ⟨t,rfl⟩:=r;exact .cons n t (z0v rs)
def zj7:V->List V->Hp->VK->Prop:=fun x vs H Q=>∃ (p:Addr)(ns:List Int)(k:Int),x=.ref p/\vs=[.int k]/\H p=some (.tup (ns.map V.int))/\k∈ns/\Q (.int (ns.idxOf k:Nat)) H
theorem z77:MtR X "tuple.index" zj7:=by
 intro pins s O H x vs v us Q I rx rv h;obtain ⟨p,ns,k,rfl,rfl,hp,hk,q⟩:=h;cases rx;obtain ⟨u,rfl,⟨t,rfl⟩⟩:=vals1 rv;obtain ⟨_,its,r,ob,e1,c1,d1,n,w1⟩:=I.hok p _ hp;have hi:=z0v r;have hlen:=hi.length;have hj:ns.idxOf k<ns.length:=List.idxOf_lt_length_iff.mpr hk;obtain ⟨cls,dd,data,sl⟩:=ob;simp only at c1 d1 w1;subst c1 d1 w1;refine _a3 PySem.F.slot_tuple_index ⟨_,e1,rfl⟩ PySem.F.entry_tuple_index (PySem.F.args_tuple_index_2 _ _) (z2O p its.toArray n _ sl (.int k t) (isInt k) (ns.idxOf k) (by simpa [hlen] using hj) ?_ ?_) ⟨e1,fun y hy=>(eq_isInt k t hi y (by simpa using hy)).at _ _,?_⟩
 ·show isInt k its[ns.idxOf k]=true;rw [isInt_at k hi _ (by omega) hj];simpa using _cj hj
 ·intro j hjs hlt;show isInt k its[j]=false;rw [isInt_at k hi j (by simpa using hjs) (by omega)];exact ne_of_lt_idxOf hlt _
 ·exact ⟨.int (ns.idxOf k:Nat),H,I.kept (fun b o e=>e),⟨s.toks,rfl⟩,q⟩
end
end L2
namespace Dd
open L2
section
variable {X:Cx}{E:XK}{o e:Expr}{pos:Pos}
def zcD(fo fv:FE):FE:=fun Z s=>(fo Z s).bind fun o s1=>match o with
 | .tup ds=>(fv Z s1).bind fun d s2=>match intsOf ds,d with
  | some ns,.int k=>if k∈ns then .ok (.int (ns.idxOf k:Nat)) s2 else .no | _,_=>.no
 | _=>.no
theorem z76{apos:Pos}{fo fv:FE}(ho:RE X E o fo)(hv:RE X E e fv)(hbase:attributeBase o "index" X.env (eval o X.env)=eval o X.env:=by rfl) (hfew:((backTo pos (starEach [e] X.env)).all (fun x=>!x.1)&&(backToKw pos (keywordEach [] X.env)).all (fun x=>x.1.isSome) && decide ([e].length+([]:List Keyword).length+(if ([]:List Keyword).isEmpty then 0 else 1)<30))=true:=by rfl) (hline:(apos.endLine==pos.line)=true:=by rfl)(hs:starEach [e] X.env=(false,eval e X.env)::starEach [] X.env:=by rfl)(hplain:(backTo pos (starEach [] X.env)).any (·.1)=false:=by rfl): RE X E (.Call (.Attribute o "index" apos) [e] [] pos) (zcD fo fv):= zN (zfO PySem.F.slot_tuple_index PySem.F.type_tuple_index z77 ho (xM hv jc hs) hbase hfew hline hs hplain) fun O H Q ⟨Y,Z,s,r,en,h⟩=>by
  unfold zcD at h;refine ⟨Y,Z,s,r,en,(okR.bind (Dn:=Den (gm X)) h).imp fun ov H1 ⟨Y1,s1,od,stp,dn,h1⟩=>?_⟩;cases od with
  | tup ds=>
   simp only at h1;have hty:∃ p vs,ov=.ref p/\H1 p=some (.tup vs):=by
    simp only [Den] at dn;obtain ⟨a,vs,rfl,e1,_⟩:=dn;exact ⟨a,vs,rfl,e1⟩
   refine ⟨hty,⟨Y1,Z,s1,stp.rep,en.mono stp,(okR.bind (Dn:=Den (gm X)) h1).imp fun v H2 ⟨Y2,s2,d,stp2,dn2,h2⟩=>?_⟩⟩;split at h2
   ·rename_i ns k ei;split at h2
    ·rename_i hk;have dov:=dn.mono stp2;simp only [Den] at dov;obtain ⟨a,vs,rfl,e1,e2⟩:=dov;rw [kA ei] at e2;cases kB e2;cases yd dn2;exact ⟨a,ns,k,rfl,rfl,e1,hk,okR.here h2 stp2.rep yL⟩
    ·exact h2.elim
   ·exact h2.elim | _=>exact h1.elim
@[simp] theorem zfL (fo fv:FE)(Z:Ev)(s:Sto):zcD fo fv Z s=(fo Z s).bind fun o s1=>match o with
 | .tup ds=>(fv Z s1).bind fun d s2=>match intsOf ds,d with
  | some ns,.int k=>if k∈ns then .ok (.int (ns.idxOf k:Nat)) s2 else .no | _,_=>.no
 | _=>.no:=id rfl
end
def zeq(P:Program)(w:World)(K:W.Frag)(mg:Str->Option Value)(x:Str)(tb:List (Str×Str)):Prop:= ∃ a o es ep,mg x=some (.ref a)/\(a==sysModules)=false/\K.lookup a=some o/\o.ExactDict/\o.data=.dict es ep/\PySem.KeysOf (yc P w) es/\ (∀ k y,tb.lookup k=some y->∃ f,findBy (yc P w).is es (.inr k)=some (.ref f)/\mg y=some (.ref f))/\∀ k,tb.lookup k=none->findBy (yc P w).is es (.inr k)=none
theorem z58{P:Program}{w:World}{k:Str}{u:Value}(r:xK (.str k) u):(yc P w).is (.inr k) u=true:=by
 obtain ⟨t,e⟩:=(show ∃ t,u=Value.str k t from r);subst e;exact kX k t
section
variable {X:Cx}{E:XK}{e a b c:Expr}{es:List Expr}{pos:Pos}{CX:CXT}
theorem z7q{pins:List (Addr×Obj)}{O:L2.St}{H:Hp}{s:Shared}{o:Obj}{d:Addr}{en:Array DictEntry}{ep:Nat}(I:Inv X pins O H s)(hk:X.K.lookup d=some o)(hx:o.ExactDict)(hd:o.data=.dict en ep)(ks:PySem.KeysOf (yc X.prog X.w) en): s.heap.MapOf (yc X.prog X.w) d (fun k=>findBy (yc X.prog X.w).is en k):=⟨o,en,ep,I.kIn d o hk,hx,hd,ks,fun _=>rfl⟩
def zhH(tb:List (Str×Str))(f:FE):FE:=fun Z s=>(f Z s).bind fun d s1=>match d with
 | .str k=>match tb.lookup k with | some y=>.ok (.fn y) s1 | none=>.no
 | _=>.no
theorem zi4{x:Str}{p:Pos}{tb:List (Str×Str)}{f:FE}(hT:zeq X.prog X.w X.K X.mg x tb)(hg:Gl X x)(he:RE X E e f)(hs:z6R e)(hdb:(x==("__debug__":Str))=false:=by decide): RE X E (.Subscript (.Name x p) e pos) (zhH tb f):=by
 obtain ⟨d,o,en,ep,hm,hsm,hk,hx,hd,ks,h1,h2⟩:=hT;refine zN (zgw (r:=fun v y H Q=>v=.ref d/\∃ k g,y=.str k/\findBy (yc X.prog X.w).is en (.inr k)=some (.ref g)/\Q (.ref g) H) ?_ (z28 hg hm (show xK (.ref d) (.ref d) from rfl) hdb) he hs) fun O H Q ⟨Y,Z,s,r,en',h⟩=>?_
 ·intro value slice pins s O H v y u u2 Q I rx ry h hs2;obtain ⟨rfl,k,g,rfl,hf,q⟩:=h;cases rx;have mp:=z7q I hk hx hd ks;exact _bC (x:=.ref g) mp.typeIs PySem.F.slot_dict_getitem.lookup (wpAny_getItem_of (Q:=fun r s'=>r=.ref g/\EP X pins O Q r s') (z58 ry) mp hf ⟨rfl,.ref g,H,I.tok _,rfl,q⟩) hs2
 ·unfold zhH at h;refine ⟨Y,Z,s,r,en',(okR.bind (Dn:=Den (gm X)) h).imp fun v H1 ⟨Y1,s1,dd,stp,dn,q⟩=>?_⟩;split at q
  ·rename_i k;split at q
   ·rename_i y hy;obtain ⟨g,e1,e2⟩:=h1 k y hy;cases uR dn;exact ⟨rfl,k,g,rfl,e1,okR.here (b:=V.ref g) q stp.rep (by simp only [Den];exact ⟨g,rfl,e2⟩)⟩
   ·exact q.elim
  ·exact q.elim
def z82(tb:List (Str×Str))(neg:Bool)(f:FE):FE:=fun Z s=>(f Z s).bind fun d s1=>match d with
 | .str k=>.ok (.bl (xor neg (tb.lookup k).isSome)) s1 | _=>.no
theorem zeZ{x:Str}{p:Pos}{tb:List (Str×Str)}{f:FE}(hT:zeq X.prog X.w X.K X.mg x tb)(hg:Gl X x)(he:RE X E e f)(hm':behindInMarks .In (.Name x p)=false:=by rfl)(hdb:(x==("__debug__":Str))=false:=by decide): RE X E (.Compare e [.In] [.Name x p] pos) (z82 tb false f):=by
 obtain ⟨d,o,en,ep,hm,hsm,hk,hx,hd,ks,h1,h2⟩:=hT;refine zN (zaO (r:=fun y v H Q=>v=.ref d/\∃ k,y=.str k/\Q (.bl (findBy (yc X.prog X.w).is en (.inr k)).isSome) H) ?_ he (z28 hg hm (show xK (.ref d) (.ref d) from rfl) hdb) hm') fun O H Q ⟨Y,Z,s,r,en',h⟩=>?_
 ·intro pins s O H y v u u2 Q I ry rx h;obtain ⟨rfl,k,rfl,q⟩:=h;cases rx;exact wpAny_in_of (z58 ry) hsm (z7q I hk hx hd ks) ⟨.bl _,H,I.tok _,rfl,q⟩
 ·unfold z82 at h;refine ⟨Y,Z,s,r,en',(okR.bind (Dn:=Den (gm X)) h).imp fun v H1 ⟨Y1,s1,dd,stp,dn,q⟩=>?_⟩;split at q
  ·rename_i k;cases uR dn;have e0:(findBy (yc X.prog X.w).is en (.inr k)).isSome=(tb.lookup k).isSome:=by cases z:tb.lookup k with
    | none=>rw [h2 k z];rfl | some y=>obtain ⟨g,e1,_⟩:=h1 k y z;rw [e1];rfl
   exact ⟨rfl,k,rfl,okR.here (b:=V.bl _) q stp.rep (by simp [Den,e0])⟩
  ·exact q.elim
def z7H(i:Nat)(Ms:List (Str×Mir))(f:FA):FE:=fun Z s=>match Z[i]? with
 | some (some (.fn y))=>match Ms.lookup y with
  | some M=>(f Z s).bind fun xs s1=>M xs s1 | none=>.no
 | _=>.no
theorem zeY (i:Nat) {x:Str} {p:Pos} {n:Nat} {Ms:List (Str×Mir)} {f:FA} (F:∀ y M,Ms.lookup y=some M->Has X.prog X.w X.K X.mg X.base CX y n M) (hr:z0k n X.A) (hxx:Passes CX X E) (ha:RA X E (e::es) f) (hN:X.N[i]? = some x:=by rfl) (hv:Vis X.env.scope x:=by first | exact Or.inl rfl | exact Or.inr (Or.inl rfl) | exact Or.inr (Or.inr rfl)) (hd:(x==("__debug__":Str))=false:=by decide) (hcd:(x==("__classdict__":Str))=false:=by decide) (he:starEach (e::es) X.env=(false,eval e X.env)::starEach es X.env:=by rfl) (hpl:(backTo pos (starEach es X.env)).any (·.1)=false:=by rfl):RE X E (.Call (.Name x p) (e::es) [] pos) (z7H i Ms f):=by
 intro pins s O H Q I ⟨Y,Z,st,r,en,h⟩;unfold z7H at h;split at h
 ·rename_i y hy;split at h
  ·rename_i M hM;obtain ⟨v,hv1,dv⟩:=en.at_ i (.fn y) hy;simp only [Den] at dv;obtain ⟨g,rfl,hmg⟩:=dv;obtain ⟨fa,fd,ps,Fk,hb,hk,hm⟩:=F y M hM;have e0:g=fa:=by rw [hmg] at hm;cases hm;rfl
   subst e0;refine _ar (thn (zdh (pos:=p) hN hv hd hcd pins s O H (fun v H1=>v=.ref g/\H1=H) I ⟨.ref g,hv1,rfl,rfl⟩) fun u s1 ⟨v,H1,I1,r1,e1,e2⟩=>?_);subst e1 e2;cases r1;have hA:=ha pos pins s1 O H1 (fun vs H2=>zcZ (gm X) M (vs++[]) H2 Q E) I1 (um (k:=fun Z xs s1=>M xs s1) r en h _ fun vs H2 Y2 s2 ds r2 en2 dn2 stp2 h3=>by
    rw [_a8];exact ⟨Y2,s2,ds,r2,dn2,h3⟩);refine W.callWith_K (h₀:=X.base) I1.ok.mod.kin hk (thn hA fun us s2 ⟨vs,H2,I2,r2,q⟩=>⟨I2.kIn,?_⟩) he hpl;exact zbe Fk hr hb .nil hxx I2 r2 q
  ·exact h.elim
 ·exact h.elim
@[simp] theorem zjg (tb:List (Str×Str))(f:FE)(Z:Ev)(s:Sto):zhH tb f Z s=(f Z s).bind fun d s1=>match d with
 | .str k=>match tb.lookup k with | some y=>.ok (.fn y) s1 | none=>.no
 | _=>.no:=id rfl
@[simp] theorem zhI (tb:List (Str×Str))(neg:Bool)(f:FE)(Z:Ev)(s:Sto):z82 tb neg f Z s=(f Z s).bind fun d s1=>match d with
 | .str k=>.ok (.bl (xor neg (tb.lookup k).isSome)) s1 | _=>.no:=id rfl
@[simp] theorem zcd (i:Nat)(Ms:List (Str×Mir))(f:FA)(Z:Ev)(s:Sto):z7H i Ms f Z s=match Z[i]? with
 | some (some (.fn y))=>match Ms.lookup y with
  | some M=>(f Z s).bind fun xs s1=>M xs s1 | none=>.no
 | _=>.no:=id rfl
end
theorem wl.cut{mg:Gm}{H H1:Hp}{Y Y1:List Addr}{s1:Sto}(stp:wl mg H Y H1 Y1 s1):wl mg H Y H1 (Y1.take Y.length) (s1.take Y.length):=by
 have fl:∀ {ds:List D}{ws:List V},D.flat.flats ds=true->zA mg H1 Y1 ds ws->zA mg H1 (Y1.take Y.length) ds ws:=fun f h=>h.flatten (fun _ _ h _ _=>h) f;refine ⟨⟨by simp [stp.rep.len],stp.rep.nd.sublist (_cq _ _),fun j ys h=>?_,fun ys h=>stp.rep.flat ys (_aS h)⟩,?_,stp.keep,fun c h1 h2=>stp.new c (_aS h1) h2,stp.mt⟩
 ·have hj:j<Y.length:=by
   have:=(_c.mp h).1;simp at this;omega
  rw [_an hj] at h ⊢;obtain ⟨c,q1,q2⟩:=stp.rep.cell j ys h;exact ⟨c,q1,q2.flatten (fun _ _ h _ _=>h) (stp.rep.flat _ (_y h)) rfl⟩
 ·obtain ⟨t,ht⟩:=stp.pre;exact ⟨[],by rw [<- ht,List.take_append];simp⟩
theorem wl.frzC{mg:Gm}{H H1:Hp}{Y Y1:List Addr}{s1:Sto}{l:Nat}{xs:List D}(stp:wl mg H Y H1 Y1 s1){a:Addr}(hl:Y.length<=l)(hx:s1[l]? = some xs)(e1:Y1[l]? = some a)(ka:IsL H1 a):∃ vs,H1 a=some (.lst vs)/\ ∀ o,wl mg H Y (upd H1 a (.frz o (.lst vs))) (Y1.take Y.length) (s1.take Y.length)/\Den mg (upd H1 a (.frz o (.lst vs))) (Y1.take Y.length) (.lst xs) (.ref a):=by
 obtain ⟨vs,e2,e3⟩:=stp.rep.at_ hx e1 ka;refine ⟨vs,e2,fun o=>?_⟩;have il:l<Y1.length:=(_c.mp e1).1;have an:a∉Y:=fun z=>by
  obtain ⟨j,hj,ej⟩:=_E.mp z;obtain ⟨t,ht⟩:=stp.pre;have:Y1[j]? = some a:=by rw [<- ht,_v hj,_f hj,ej]
  have:=(_aG stp.rep.nd).mp (((_c.mp this).2).trans ((_c.mp e1).2).symm);omega
 have a0:H a=none:=stp.new a (_y e1) an;have k:∀ b u,H1 b=some u->(∀ vs,u≠.lst vs)->(∀ kvs,u≠.dT kvs)->upd H1 a (.frz o (.lst vs)) b=some u:=fun b u h hn _=>by rw [zE (fun z=>by subst z;rw [e2] at h;exact hn vs (_I h).symm)];exact h
 have fl:∀ {ds:List D}{ws:List V},D.flat.flats ds=true->zA mg H1 Y1 ds ws->zA mg (upd H1 a (.frz o (.lst vs))) (Y1.take Y.length) ds ws:=fun f h=>h.flatten k f;have mem:∀ {j:Nat}{ys:List D},s1[j]? = some ys->D.flat.flats ys=true:=fun e=>stp.rep.flat _ (_y e);refine ⟨⟨⟨by simp [stp.rep.len],stp.rep.nd.sublist (_cq _ _),fun j ys h=>?_,fun ys h=>stp.rep.flat ys (_aS h)⟩,?_,fun b u h n=>?_,fun c h1 h2=>stp.new c (_aS h1) h2,fun b hb=>?_⟩,?_⟩
 ·have hj:j<Y.length:=by
   have:=(_c.mp h).1;simp at this;omega
  rw [_an hj] at h ⊢;obtain ⟨c,q1,q2⟩:=stp.rep.cell j ys h;refine ⟨c,q1,q2.flatten k (mem h) (zE fun z=>?_)⟩;subst z;have:=(_aG stp.rep.nd).mp (((_c.mp q1).2).trans ((_c.mp e1).2).symm);omega
 ·obtain ⟨t,ht⟩:=stp.pre;exact ⟨[],by rw [<- ht,List.take_append];simp⟩
 ·rw [zE (fun z=>by subst z;rw [a0] at h;cases h)];exact stp.keep b u h n
 ·have ne:b≠a:=fun z=>an (z ▸ hb);rcases stp.mt b hb with ⟨q1,q2⟩ | ⟨q1,q2,q3⟩;·exact .inl ⟨q1,by rw [IsL,zE ne];exact q2⟩
  ·exact .inr ⟨q1,by rw [IsC,zE ne];exact q2,fun o u z=>by rw [zE ne];exact q3 o u z⟩
 ·simp only [Den];exact ⟨a,o,vs,rfl,yn,fl (mem hx) e3⟩
def zgp(n:Nat):R D->R D
 | .ok (.loc l) s1=>match s1[l]? with
  | some xs=>if n<=l then .ok (.lst xs) (s1.take n) else .no | none=>.no
 | .ok _ _=>.no | .ex c s1=>.ex c s1 | .no=>.no
def z46(f:FE):FE:=fun Z s=>zgp s.length (f Z s)
section
variable {X:Cx}{E:XK}{e:Expr}
theorem zaV{f:FE}(h:RE X E e f):RE X E e (z46 f):= zN (PE.freeze h) fun O H Q ⟨Y,Z,s,r,en,h⟩=>by
  refine ⟨Y,Z,s,r,en,?_⟩;unfold z46 zgp at h;split at h
  ·rename_i l s1 e1;rw [e1];split at h
   ·rename_i xs ex;split at h
    ·rename_i hl;intro v H1 Y1 stp dn;simp only [Den] at dn;obtain ⟨a,rfl,q1,ka⟩:=dn;obtain ⟨vs,q2,q3⟩:=stp.frzC (by rw [r.len];exact hl) ex q1 ka;rw [<- r.len] at h;exact ⟨a,vs,rfl,q2,fun o=>h _ _ _ (q3 o).1 (q3 o).2⟩
    ·exact h.elim
   ·exact h.elim
  ·exact h.elim
  ·rename_i e1;rw [e1];exact h
  ·exact h.elim
end
@[simp] theorem z9k (f:FE)(Z:Ev)(s:Sto):z46 f Z s=zgp s.length (f Z s):=id rfl
@[simp] theorem zcC {s:Sto}{xs:List D}:zgp s.length (.ok (.loc s.length) (s++[xs]))=.ok (.lst xs) s:=by simp [zgp]
def z8p(n:Nat):R D->R D
 | .ok (.loc l) s1=>if l<n then .ok (.loc l) (s1.take n) else .ok (.loc l) s1 | .ok d s1=>if d.flat=true then .ok d (s1.take n) else .ok d s1 | r=>r
def z95(M:Mir):Mir:=fun ds s=>z8p s.length (M ds s)
theorem ze8{mg:Gm}{M:Mir}{vs:List V}{H:Hp}{Q:VK}{E:XK}(h:zcZ mg (z95 M) vs H Q E):zcZ mg M vs H Q E:=by
 obtain ⟨Y,s,ds,r,dn,h⟩:=h;refine ⟨Y,s,ds,r,dn,?_⟩;unfold z95 z8p at h;split at h
 ·rename_i l s1 e;rw [e];split at h
  ·rename_i hl;intro v H1 Y1 stp dv;rw [<- r.len] at h;refine h v H1 _ stp.cut ?_;simp only [Den] at dv ⊢;obtain ⟨a,rfl,e1,ka⟩:=dv;exact ⟨a,rfl,by rw [_an (by rw [r.len];exact hl)];exact e1,ka⟩
  ·exact h
 ·rename_i d s1 hn e;rw [e];split at h
  ·rename_i hf;intro v H1 Y1 stp dv;rw [<- r.len] at h;exact h v H1 _ stp.cut (dv.flatten (fun _ _ h _ _=>h) hf)
  ·exact h
 ·exact h
section
variable {P:Program}{w:World}{K:W.Frag}{mg:Str->Option Value}{base:Heap}
theorem Has.tidy{CX:CXT}{x:Str}{n:Nat}{M:Mir}(h:Has P w K mg base CX x n M):Has P w K mg base CX x n (z95 M):=by
 obtain ⟨f,fd,ps,F,r⟩:=h;exact ⟨f,fd,ps,F.imp fun vs H Q E h=>ze8 h,r⟩
end
@[simp] theorem za4 (M:Mir)(ds:List D)(s:Sto):z95 M ds s=z8p s.length (M ds s):=id rfl
@[simp] theorem z3j {d:D}{n:Nat}{s1:Sto}(h:d.flat=true):z8p n (.ok d s1)=.ok d (s1.take n):=by cases d<;>first | (simp [D.flat] at h;done) | simp_all [z8p]
def zfz:D->D->Sto->R D
 | x,.int k,s=>match listOf s x with
  | some xs=>if xs.length*k.toNat<=cap/\-(2 ^ 62)<=k/\k<2 ^ 62 then .ok (.lst (List.replicate k.toNat xs).flatten) s else .no | none=>.no
 | _,_,_=>.no
theorem zA.flat_rep{mg:Gm}{H:Hp}{Y:List Addr}{xs:List D}{vs:List V}(h:zA mg H Y xs vs):∀ k:Nat,zA mg H Y (List.replicate k xs).flatten (List.replicate k vs).flatten
 | 0=>by simpa using zA.nil | k+1=>by
  rw [_Y,_Y,_aB,_aB];exact h.append (h.flat_rep k)
section
variable {X:Cx}{E:XK}
theorem zgS:∃ r,OpR X (binaryOp .Mult) r/\OpF X E r zfz:=by
 refine ⟨_,zd7.freeze,?_⟩;intro H Y s d1 d2 v1 v2 Q r h1 h2 h;unfold zfz at h;split at h
 ·rename_i k;cases yd h2;split at h
  ·rename_i xs hx;split at h
   ·rename_i hl;obtain ⟨l,vs,e,q1,q2⟩:=zM r hx h1;exact ⟨l,k,vs,e,rfl,q1,by omega,by omega,by rw [q2.length];exact qG hl.1,uA r h (q2.flat_rep _)⟩
   ·exact h.elim
  ·exact h.elim
 ·exact h.elim
end
section
variable {X:Cx}{E:XK}{e a b c:Expr}{es:List Expr}{pos:Pos}{CX:CXT}
theorem z6F{x:Str}{p:Pos}{n:Nat}{M:Mir}(F:Has X.prog X.w X.K X.mg X.base CX x n M)(hr:z0k n X.A)(hx:Passes CX X E)(hg:Gl X x)(hdb:(x==("__debug__":Str))=false:=by decide):RE X E (.Call (.Name x p) [] [] pos) (ze M zh):=by
 obtain ⟨fa,fd,ps,F,hb,hk,hm⟩:=F;refine zN (zbm F hr hg hm hk hb .nil hx hdb) fun O H Q ⟨Y,Z,s,r,en,h⟩=>?_;exact ⟨Y,s,[],r,zA.nil,h⟩
end
section
variable {P:Program}{w:World}{K:W.Frag}{mg:Str->Option Value}{base:Heap}{CX:CXT}{n:Nat}
def zbd:List DictEntry->List (Str×Value)
 | []=>[] | e::es=>match e.key with
  | .str k _=>(k,e.val)::zbd es | _=>zbd es
theorem z0f {P:Program} {w:World} {k:Str}:∀ {es:List DictEntry},findBy (yc P w).is es.toArray (.inr k)=(zbd es).lookup k
 | []=>by simp [findBy,zbd] | e::es=>by
  have ih:=z0f (P:=P) (w:=w) (k:=k) (es:=es);simp only [findBy,List.find?_toArray] at ih ⊢;rw [List.find?_cons];cases hk:e.key with
  | str y t=>
   simp only [zbd,hk,_H];by_cases z:k=y
   ·subst z;simp [z6x]
   ·have:(yc P w).is (.inr k) (.str y t)=false:=by
     rw [z34];cases q:z5H (.inr k) (.str y t) with
     | false=>rfl | true=>
      rcases yi q with ⟨i,u,h1,h2⟩ | ⟨x,u,h1,h2⟩;·cases h2
      ·cases h1;cases h2;exact absurd rfl z
    rw [this,show (k==y)=false from by simpa using z];exact ih | _=>
   have:(yc P w).is (.inr k) e.key=false:=by
    rw [z34];cases q:z5H (.inr k) e.key with
    | false=>rfl | true=>
     rcases yi q with ⟨i,u,h1,h2⟩ | ⟨x,u,h1,h2⟩;·cases h1
     ·rw [hk] at h2;cases h2
   rw [hk] at this;simp only [zbd,hk,this];exact ih
theorem zbz:∀ y M,([]:List (Str×Mir)).lookup y=some M->Has P w K mg base CX y n M:=fun y M h=>by simp at h
theorem kY{x:Str}{M0:Mir}{Ms:List (Str×Mir)}(h:Has P w K mg base CX x n M0)(hs:∀ y M,Ms.lookup y=some M->Has P w K mg base CX y n M):∀ y M,((x,M0)::Ms).lookup y=some M->Has P w K mg base CX y n M:=fun y M e=>by
 rw [_H] at e;split at e
 ·rename_i hb;cases e;have:y=x:=by simpa using hb
  subst this;exact h
 ·exact hs y M e
end
def Sub(K:W.Frag)(h:Heap):Prop:=∀ p∈K,h.get? p.1=some p.2
theorem Sub.in_{K:W.Frag}{h:Heap}(s:Sub K h):K.In h:=fun a o e=>by induction K with
 | nil=>simp at e | cons p K ih=>
  obtain ⟨b,u⟩:=p;rw [_H] at e;split at e
  ·rename_i hb;cases e;have:a=b:=by simpa using hb
   subst this;exact s (a,o) (by simp)
  ·exact ih (fun q hq=>s q (by simp [hq])) e
theorem z45(h:Heap)(a:Addr):Sub (z6w h a) h:=fun p hp=>by
 unfold z6w at hp;split at hp
 ·rename_i o e;simp at hp;subst hp;exact e
 ·simp at hp
theorem Sub.app{K L:W.Frag}{h:Heap}(a:Sub K h)(b:Sub L h):Sub (K++L) h:=fun p hp=>(_ag.mp hp).elim (a p) (b p)
theorem zdS(h:Heap)(ns:List Str):Sub (gat h ns) h:=by
 refine (z45 h _).app fun p hp=>?_;obtain ⟨x,_,hx⟩:=List.mem_flatMap.mp hp;unfold zjq at hx;split at hx
 ·rcases _ag.mp hx with hx | hx;·exact z45 h _ p hx
  ·split at hx
   ·split at hx;·exact z45 h _ p hx
    ·simp at hx
   ·exact z45 h _ p hx
   ·simp at hx
 ·simp at hx
def zji(K:W.Frag)(x:Str)(st:Stmt):Prop:=∃ f fd,W.nsIn K mainGlobals x=some (some (.ref f))/\Fun K x x st f fd
theorem dA(s:Stmt):dArgs s=z0i s:=by cases s<;>rfl
theorem dB(s:Stmt):zgs s=wY s:=by cases s<;>rfl
theorem dS(s:Stmt):zdc s=zg s:=by cases s<;>rfl
theorem zev{K:W.Frag}{x:Str}{st:Stmt}(h:zf0 K x=zia x st):zji K x st:=by
 unfold zf0 zia at h;rw [dA,dB,dS] at h;split at h
 ·rename_i f hf;split at h
  ·rename_i oc od fd sl hl;simp only [_p,_aW] at h;obtain ⟨h1,h2,h3,h4,h5,h6,h7,h8,h9,h10,h11⟩:=h;obtain ⟨a1,a2,a3,a4,a5,a6,a7,a8,a9,a10,a11,a12,a13,a14,a15⟩:=fd;simp only at h1 h2 h3 h4 h5 h6 h7 h8 h9 h10;subst h1 h3 h4 h5 h6 h7 h8 h9;subst h2;exact ⟨f,_,hf,zh0 hl h10 h11⟩
  ·cases h
 ·cases h
theorem zbx{K:W.Frag}{x:Str}(h:zeu K x=true):W.nsIn K mainGlobals x=some none:=by
 unfold zeu at h;split at h;·rename_i e;exact e
 ·cases h
theorem zcH{K:W.Frag}{x:Str}{i:Int}(h:zft K x=some i):∃ t,W.nsIn K mainGlobals x=some (some (.int i t)):=by
 unfold zft at h;split at h;·rename_i j t e;cases h;exact ⟨t,e⟩
 ·cases h
theorem z3O{P:Program}{w:World}{K:W.Frag}{h:Heap}{mg:Str->Option Value}(X:K.In h)(G:h.Ns mainGlobals mg):∀ {es:List DictEntry}{tb:List (Str×Str)},z2H K es (tb.map (·.2))=tb.map (fun p=>(PyData.keyHash w.params p.1,some p.1,true))-> PySem.KeysOf (yc P w) es.toArray/\(∀ k y,tb.lookup k=some y->∃ f,(zbd es).lookup k=some (.ref f)/\mg y=some (.ref f))/\∀ k,tb.lookup k=none->(zbd es).lookup k=none
 | [],[],_=>⟨fun e he=>by simp at he,fun k y h=>by simp at h,fun k _=>by simp [zbd]⟩ | [],_::_,h=>by simp [z2H] at h | _::_,[],h=>by simp [z2H] at h | e::es,(k0,y0)::tb,h=>by
  simp only [_w,z2H,_b0,_aW] at h;obtain ⟨⟨h1,h2,h3⟩,h4⟩:=h;obtain ⟨i1,i2,i3⟩:=z3O (P:=P) X G h4;obtain ⟨hh,kk,vv⟩:=e;simp only at h1 h2 h3;cases kk with
  | str ks t=>
   simp only [z66,_p] at h2;subst h2;have hv:∃ f,vv=.ref f/\W.nsIn K mainGlobals y0=some (some (.ref f)):=by
    unfold sameRef at h3;split at h3
    ·rename_i f g e1;have:f=g:=by simpa using h3
     subst this;exact ⟨f,rfl,e1⟩
    ·cases h3
   obtain ⟨f,rfl,e1⟩:=hv;refine ⟨fun e he=>?_,fun k y hy=>?_,fun k hy=>?_⟩
   ·simp only [_cP,_r] at he;rcases he with rfl | he;·exact ⟨.inr ks,kX ks t,h1⟩
    ·exact i1 e (by simpa using he)
   ·simp only [zbd,_H] at hy ⊢;by_cases z:k=ks
    ·subst z;simp at hy ⊢;subst hy;exact W.mg_of X G e1
    ·rw [show (k==ks)=false from by simpa using z] at hy ⊢;exact i2 k y hy
   ·simp only [zbd,_H] at hy ⊢;by_cases z:k=ks;·subst z;simp at hy
    ·rw [show (k==ks)=false from by simpa using z] at hy ⊢;exact i3 k hy | _=>simp [z66] at h2
theorem ze2{P:Program}{w:World}{K:W.Frag}{h:Heap}{mg:Str->Option Value}{x:Str}{tb:List (Str×Str)}(X:K.In h)(G:h.Ns mainGlobals mg)(e:zaw K x (tb.map (·.2))=zg3 w tb):zeq P w K mg x tb:=by
 unfold zaw zg3 at e;split at e
 ·rename_i a ha;split at e
  ·rename_i c d es ep sl hl;simp only [_p,_aW] at e;obtain ⟨e1,e2,e3,e4,e5⟩:=e;obtain ⟨i1,i2,i3⟩:=z3O (P:=P) X G e5;have hc:c=.type "dict":=by
    unfold z1S at e1;split at e1
    ·rename_i n;have:n="dict":=by simpa using e1
     rw [this]
    ·cases e1
   have hd:d=none:=by simpa using e2
   have hs:sl=#[]:=by
    have:sl.size=0:=by simpa using e3
    exact _bP this
   have ea:es.toList.toArray=es:=by simp
   rw [ea] at i1;refine ⟨a,_,es,ep,W.mg_of X G ha,e4,hl,⟨hc,hd,hs⟩,rfl,i1,fun k y hy=>?_,fun k hy=>?_⟩;·rw [<- ea,z0f];exact i2 k y hy
   ·rw [<- ea,z0f];exact i3 k hy
  ·cases e
 ·cases e
def saysS(q:Ask)(w:World)(h:Heap):Prop:=∃ K:W.Frag,K.In h/\z8K q K=valS q w
theorem zdP(q:Ask)(w:World)(s:Shared)(e:obsS q s=valS q w):saysS q w s.heap:=⟨_,(zdS _ _).in_,e⟩
theorem z8T(q:Ask)(w:World)(h h':Heap)(x:saysS q w h)(k:∀ b o,h.get? b=some o->h'.get? b=some o):saysS q w h':=let ⟨K,a,b⟩:=x;⟨K,a.keeps k,b⟩
theorem z2u{α β:Type}{f g:α->β}:∀ {l:List α},l.map f=l.map g->∀ x∈l,f x=g x:=fun h x hx=>List.map_inj_left.mp h x hx
theorem ziZ{q:Ask}{w:World}{K:W.Frag}(e:z8K q K=valS q w)(x:Str)(st:Stmt)(hx:(x,st)∈q.fs):zji K x st:=zev (z2u (_am Prod.fst e) (x,st) hx)
theorem zie{q:Ask}{w:World}{K:W.Frag}(e:z8K q K=valS q w)(x:Str)(hx:x∈q.bs):W.nsIn K mainGlobals x=some none:=zbx (z2u (_am (fun z=>z.2.1) e) x hx)
theorem zj8{q:Ask}{w:World}{K:W.Frag}(e:z8K q K=valS q w)(x:Str)(i:Int)(hx:(x,i)∈q.cs):∃ t,W.nsIn K mainGlobals x=some (some (.int i t)):=zcH (z2u (_am (fun z=>z.2.2.1) e) (x,i) hx)
theorem zi0{P:Program}{q:Ask}{w:World}{K:W.Frag}{h:Heap}{mg:Str->Option Value}(X:K.In h)(G:h.Ns mainGlobals mg)(e:z8K q K=valS q w)(x:Str)(tb:List (Str×Str))(hx:(x,tb)∈q.ts):zeq P w K mg x tb:=ze2 X G (z2u (_am (fun z=>z.2.2.2.1) e) (x,tb) hx)
theorem zaN{p q:Program}{loose:List Str}{Xt:Shared->Bool}{α:Type}{Yf:Shared->α}{Ya:World->α}{N:Nat}{g0:Bool}(row:String) (bo:∀ w:World,(W.fencedOpening treeTable p w N).map (fun s=>(s.heap,s.gens,s.drawn,s.toks))=some (W.boot_heap w.params,Array.mk [],W.boot_drawn,W.boot_toks)) (hf:∀ (w:World)(os:OsState),(W.topFrom treeTable p (w.withFollow row false) N ⟨W.boot_heap w.params,Array.mk [],W.boot_drawn,W.boot_toks,os⟩).map (fun s=>(W.openSeen q loose (importedModules p.main.body) Xt g0 s,Yf s))=some (W.openGood q loose,Ya (w.withFollow row false))) (ht:∀ (w:World)(os:OsState),(W.topFrom treeTable p (w.withFollow row true) N ⟨W.boot_heap w.params,Array.mk [],W.boot_drawn,W.boot_toks,os⟩).map (fun s=>(W.openSeen q loose (importedModules p.main.body) Xt g0 s,Yf s))=some (W.openGood q loose,Ya (w.withFollow row true))):W.LeftO p q loose Xt Yf Ya N g0:= W.LeftO.of_split row fun w=>by
  obtain ⟨⟨h,gs,d,k,os⟩,e,e'⟩:=_W.mp (bo w);obtain ⟨rfl,rfl,rfl,rfl⟩:h=W.boot_heap w.params/\gs=Array.mk []/\d=W.boot_drawn/\k=W.boot_toks:=by simpa only [_aW] using e'
  rw [e,_T,hf w os,ht w os]
theorem z5v{tb:String->Option Builtin}{p:Program}{w:World}{n₀:Nat}{ann:Option Value}:∀ {n:Nat}{s s':W.SharedT}{t:Thread},z2h tb p w n₀ ann n s t=some s'->W.topRun tb p w n₀ ann n s.abs t=some s'.abs
 | 0,_,_,_,h=>by cases h | n+1,s,s',t,h=>by
  unfold z2h at h;unfold W.topRun;cases he:W.through t with
  | true=>rw [he] at h;cases h;rfl | false=>
   rw [he] at h;cases hk:W.stepOk n₀ ann t with
   | false=>rw [hk] at h;cases h | true=>
    rw [hk] at h;cases hs:W.stepT (denote tb) p w s t with
    | none=>rw [hs] at h;cases h | some r=>obtain ⟨s₂,t₂⟩:=r;rw [hs] at h;rw [W.stepT_spec hs];exact z5v h
theorem z36{p:Program}{w:World}{N:Nat}{h:Heap}{d:Drawn}{k:Nat}{os:OsState}{t0:W.BT}{m₀:Nat}{ann:Option Value}(ha:W.absHeap t0 m₀ h.life=h) (sz:(h.isNs mainGlobals&&(Array.mk []:Array GenState).size==0,h.objs.size,h.nsMap mainGlobals "__annotations__")=(true,m₀,ann)){α:Type}{f:Shared->α}{v:α} (hr:(z2h treeTable p w m₀ ann N ⟨t0,m₀,h.life,Array.mk [],d,k,os⟩ (W.topStub p)).map (fun sT=>(W.staticsOk (importedModules p.main.body) h sT.abs.heap&&W.namesBound p sT.abs.heap&&W.gensDone sT.abs&&W.laidKept h sT.abs.heap,f sT.abs))=some (true,v)): (W.topFrom treeTable p w N ⟨h,Array.mk [],d,k,os⟩).map f=some v:=by
 obtain ⟨sT,e1,e2⟩:=_W.mp hr;obtain ⟨e3,e4⟩:=Prod.mk.inj e2;obtain ⟨z1,z2,z3⟩:_/\_/\_:=by simpa only [_aW] using sz
 have r:=z5v e1;have a0:(⟨t0,m₀,h.life,Array.mk [],d,k,os⟩:W.SharedT).abs=⟨h,Array.mk [],d,k,os⟩:=by
  show (⟨W.absHeap t0 m₀ h.life,Array.mk [],d,k,os⟩:Shared)=_;rw [ha]
 rw [a0] at r;have t:W.topFrom treeTable p w N ⟨h,Array.mk [],d,k,os⟩=some sT.abs:=by
  unfold W.topFrom;dsimp only;rw [z1,z2,z3];dsimp only;rw [r];show (match (W.staticsOk (importedModules p.main.body) h sT.abs.heap&&W.namesBound p sT.abs.heap&&W.gensDone sT.abs&&W.laidKept h sT.abs.heap) with | true=>some sT.abs | false=>none)=_;rw [e3]
 rw [t,_T,e4]
theorem z6h{α β γ δ:Type}{r:Option α}{f:α->β}{g:α->γ}{k:α->δ}{x:β}{y:γ}{z:δ}(h1:r.map (fun s=>(f s,k s))=some (x,z))(h2:r.map g=some y):r.map (fun s=>(f s,(g s,k s)))=some (x,(y,z)):=by
 obtain ⟨s,e1,e2⟩:=_W.mp h1;obtain ⟨s',e3,e4⟩:=_W.mp h2;rw [e1] at e3;cases e3;obtain ⟨e5,e6⟩:=Prod.mk.inj e2;rw [e1,_T,e4,e5,e6]
theorem walkY{l:W.OpenLaw}{n k:Nat}{q:Program}{loose:List Str}{XP:(Str->Option Value)->Heap->Prop}{YP:World->Heap->Prop}{d:DefRec}{x:Str} (hn:l.most=some n)(hn2:n<=sizeLine)(hn3:n<=63)(hdf:d.params.defaults=[])(hr:z0k k callerA) (F:∀ (w:World)(mg:Str->Option Value)(fa:Addr)(h:Heap),YP w h->h.Ns mainGlobals mg->mg d.name=some (.ref fa)->XP mg h-> ∃ K:W.Frag,K.In h/\∃ fd:FuncData,(∀ (s:Shared)(u:Value),BindsTo s fd ⟨[u],[]⟩ [(x,u)])/\ ∀ base:Heap,K.In base->base.Ns mainGlobals mg->z47 l.prog w K mg base CX0 k fa fd [x] (zeN K)): W.WalkO q loose XP YP l.row.toRowW d [] (fun f vs=>PySem.call f vs):=by
 refine Att.z6D hn hdf fun w s₀ s₁ mg mb fa o pm cd doc a vs ns G Yy ho hd hcd hmg hobj hints hlen hg=>?_;obtain ⟨K,KX,fd,hb,hF⟩:=F w mg fa _ Yy G.T.g hmg G.X;exact zc7 KX G.T.g G.T.b G.T.builtins G.T.nolimit hg hobj hints (_R hlen hn2) hr hF hb (fun H hO hS=>⟨a,ns,rfl,hO,hS,_R hlen hn3,fun _=>rfl⟩) fun H e s' z=>z
end Dd
namespace HT
section
variable {prog:Program}{w:World}{A:Around}{s:Shared}{E:Value->Shared->Prop}
theorem z8M (n:Nat):Builtin.Slice.sliceAdjust none none (-1) (n:Int)=((n:Int)-1,-1):=by
 unfold Builtin.Slice.sliceAdjust;simp
theorem z8W(n:Nat):Builtin.Slice.slicePlaces ((n:Int)-1) (-1) (-1)=n:=by
 unfold Builtin.Slice.slicePlaces;rw [_o (by decide)];by_cases h:n=0;·subst h;simp
 ·rw [_d (by omega)];simp
theorem z1j {sl:Addr} {t:Tok} {n:Nat} {Q:Int×Int×Nat->Shared->Prop} (hs:s.heap.IsSliceOf sl .none .none (.int (-1) t)) (h:Q ((n:Int)-1,-1,n) s):wpAny (model prog w) A (Builtin.Slice.sliceApplied (.ref sl) (pure (n:Int))) Q E s:=by
 obtain ⟨os,hos,hcs,hds⟩:=id hs;unfold Builtin.Slice.sliceApplied Builtin.Slice.sliceFields;refine _a (_a (_C hos hds (x:=.none) rfl (_a (_C hos hds (x:=.none) rfl (_a (_C hos hds (x:=.int (-1) t) rfl (_g ?_)))))));refine _a (slicePart_int ?_);show wpAny _ _ (if ((-1:Int)==0)=true then _ else _) _ _ s;rw [_o (by decide)];refine _a (_ce (_a (_ce (_a (_g ?_)))));show wpAny _ _ (match Builtin.Slice.sliceAdjust none none (-1) (n:Int) with | (lo,hi)=>pure (lo,(-1:Int),Builtin.Slice.slicePlaces lo hi (-1))) _ _ s;rw [z8M n];show wpAny _ _ (pure ((n:Int)-1,(-1:Int),Builtin.Slice.slicePlaces ((n:Int)-1) (-1) (-1))) _ _ s;rw [z8W];exact _g h
theorem zbo(xs:Array Value):((List.range xs.size).filterMap fun (m:Nat)=>xs[((xs.size:Int)-1+(m:Int)*(-1)).toNat]?).toArray=xs.toList.reverse.toArray:=by
 congr 1;have key:∀ (k:Nat),k<=xs.size->(List.range k).filterMap (fun (m:Nat)=>xs[((xs.size:Int)-1+(m:Int)*(-1)).toNat]?)=xs.toList.reverse.take k:=by
  intro k;induction k with
  | zero=>simp | succ k ih=>
   intro hk;rw [List.range_succ,List.filterMap_append,ih (by omega)];have h1:((xs.size:Int)-1+(k:Int)*(-1)).toNat=xs.size-1-k:=by omega
   rw [_aX,h1,Array.getElem?_eq_getElem (by omega)];have hl:k<xs.toList.reverse.length:=by simp;omega
   rw [List.take_succ,_f hl];simp
 rw [key _ (_j _),_bG (by simp)]
theorem z0b {t sl:Addr} {items:Array Value} {tk:Tok} {Q:Value->Shared->Prop} (ht:IsTup s.heap t items) (hs:s.heap.IsSliceOf sl .none .none (.int (-1) tk)) (h:Q (.ref s.heap.objs.size) {s with heap:=s.heap.push {cls:=.type "tuple",data:=.seq items.toList.reverse.toArray}}) (hsz:items.size<=sizeLine):wpAny (model prog w) A (getItem (.ref t) (.ref sl)) Q E s:=by
 have htake:sizeOk (.seq items.toList.reverse.toArray):=by
  show items.toList.reverse.toArray.size<=sizeLine;simpa using hsz
 obtain ⟨os,hos,hcs,hds⟩:=id hs;have hTs:s.TypeIs (.ref sl) "slice":=⟨os,hos,hcs⟩;unfold getItem;try with_reducible refine _at ?_
 first | refine _a (_g ?_) | skip
 refine _a (_cr ht.typeIs (by decide) ?_);refine _a (_O (name:=Str.ofString "__getitem__") ht.typeIs _B (_U _B ht.typeIs _b1 ?_ (_cf _ _)));show wpAny _ _ (Builtin.Tuple.tupleItemsOf (.ref t) >>= _) _ _ s;refine _a (tupleItemsOf_ ht ?_);refine _a (_b4 hTs ?_);rw [_d (by decide)];refine _a (z1j (n:=items.size) hs ?_);have hno:¬ (((items.size:Int)-1==0&&(-1:Int)==1&&items.size==items.size)=true):=by simp
 show wpAny _ _ (if ((items.size:Int)-1==0&&(-1:Int)==1&&items.size==items.size)=true then _ else _) _ _ s;rw [_o hno,zbo];first
  | exact _a (m:=Builtin.Tuple.tupleExact _) (_M (_g ⟨_,rfl,_g h⟩) htake) | exact _a (m:=Builtin.Tuple.tupleExact _) (_M (_a (_g (_g ⟨_,rfl,_g h⟩))) htake) | exact _a (_a (m:=Builtin.Tuple.tupleExact _) (_M (_g (_g ⟨_,rfl,_g h⟩)) htake)) | exact _a (_a (m:=Builtin.Tuple.tupleExact _) (_M (_g ⟨_,rfl,_g h⟩) htake))
end
end HT
namespace L2
section
variable {X:Cx}{e m:Expr}{te:TE}{pos p2:Pos}
def zhZ(K:W.Frag)(te:TE):TE:=fun O H Q=>te O H fun x H1=>∃ a xs,x=.ref a/\SqT K H1 a xs/\∀ p,H1 p=none->Q (.ref p) (upd H1 p (.tup xs.reverse))
theorem zfg (he:PE X e te) (hm:∀ (pins:List (Addr×Obj)) (s:Shared) (O:St) (H:Hp),Inv X pins O H s->wpAny (model X.prog X.w) X.A (evalPart (some m) X.env) (fun u s'=>∃ t,u=.int (-1) t/\Inv X pins O H s') X.xe s): PE X (.Subscript e (.Slice none none (some m) p2) pos) (zhZ X.K te):=by
 intro pins s O H Q I h;refine Subscript_ (thn (he pins s O H _ I h) fun v s1 ⟨x,H1,I1,r1,q1⟩=>?_);refine wpAny_Slice ?_;rw [_cx];refine _g (_g ?_);refine thn (hm pins s1 O H1 I1) fun u s3 ⟨t,eu,I3⟩=>?_;subst eu;have I4:Inv X pins O H1 {s3 with heap:=s3.heap.push {cls:=.type "slice",data:=.fields #[.none,.none,.int (-1) t]}}:=I3.kept (t':=s3.toks) fun b ob q=>_b _ q;obtain ⟨a,xs,rfl,hx,q⟩:=q1;cases r1;obtain ⟨its,r,ht,hz⟩:=I4.tuple hx;show wpAny (model X.prog X.w) X.A (subscriptTail e (.Slice none none (some m) p2) (.ref a) (.ref s3.heap.objs.size)) (EP X pins O Q) X.xe {s3 with heap:=s3.heap.push {cls:=.type "slice",data:=.fields #[.none,.none,.int (-1) t]}};refine tail_any (ops:=[.ref a,.ref s3.heap.objs.size]) ht.typeIs _B.lookup ?_ (by with_unfolding_all rfl);have hlen:its.toArray.size=xs.length:=by rw [_k];exact r.length.symm
 refine HT.z0b ht (_cg ..) ?_ (by rw [hlen];exact hz);refine ⟨.ref _,_,I4.laid (t':=s3.toks) (o:=.tup xs.reverse) (fun b ob q=>_b _ q) (_j _) ?_,rfl,q _ (I4.hok.fresh (_j _))⟩;have hr:yA xs.reverse its.reverse:=by
  clear hx hz ht q I4 hlen;induction r with
  | nil=>exact .nil | cons p _ ih=>rw [_aT,_aT];exact ih.append (.cons p .nil)
 refine ⟨by simpa using hz,its.reverse,hr,?_⟩;have e:its.toArray.toList.reverse.toArray=its.reverse.toArray:=by simp
 rw [e];exact z9f.new _ _
end
end L2
namespace Dd
open L2
section
variable {X:Cx}{E:XK}{e:Expr}{pos p2 p3 p4:Pos}
theorem zA.rev{mg:Gm}{H:Hp}{Y:List Addr}:∀ {xs:List D}{vs:List V},zA mg H Y xs vs->zA mg H Y xs.reverse vs.reverse
 | [],vs,h=>by simp only [zA] at h;subst h;exact zA.nil | d::ds,vs,h=>by
  simp only [zA] at h;obtain ⟨v,r,rfl,h1,h2⟩:=h;rw [_aT,_aT];exact (zA.rev h2).append (.one h1)
def zfC(f:FE):FE:=fun Z s=>(f Z s).bind fun d s1=>match d with
 | .tup xs=>.ok (.tup xs.reverse) s1 | _=>.no
theorem zjd {j:Nat} {f:FE} (he:RE X E e f):RE X E (.Subscript e (.Slice none none (some (.UnaryOp .USub (.Constant (.int 1) j p3) p4)) p2) pos) (zfC f):= zN (zfg he fun pins s O H I=>by
  rw [evalPart_some];refine thn ((zfa (pos:=p4) z9Y (zb1 (i:=1) (j:=j) (pos:=p3))) pins s O H (fun v H1=>v=.int (-1)/\H1=H) I ?_) fun u s1 ⟨x,H1,I1,r1,e1,e2⟩=>?_;·exact ⟨1,rfl,rfl,rfl⟩
  ·subst e1 e2;obtain ⟨t,rfl⟩:=r1;exact ⟨t,rfl,I1⟩) fun O H Q ⟨Y,Z,s,r,en,h⟩=>by
  unfold zfC at h;refine ⟨Y,Z,s,r,en,(okR.bind (Dn:=Den (gm X)) h).imp fun v H1 ⟨Y1,s1,d,stp,dn,h1⟩=>?_⟩;cases d with
  | tup xs=>
   obtain ⟨a,vs,rfl,q1,q2⟩:=uh (K:=X.K) dn;exact ⟨a,vs,rfl,q1,z0J stp.rep h1 q2.rev⟩ | _=>exact h1.elim
@[simp] theorem zju (f:FE)(Z:Ev)(s:Sto):zfC f Z s=(f Z s).bind fun d s1=>match d with
 | .tup xs=>.ok (.tup xs.reverse) s1 | _=>.no:=id rfl
end
section
variable {X:Cx}{E:XK}{e o a b c:Expr}{es:List Expr}{pos:Pos}
def z9n:D->D->Sto->R D
 | x,.int k,s=>match listOf s x with
  | some xs=>if xs.length*k.toNat<=cap/\-(2 ^ 62)<=k/\k<2 ^ 62/\D.flat.flats (List.replicate k.toNat xs).flatten=true then .ok (.loc s.length) (s++[(List.replicate k.toNat xs).flatten]) else .no | none=>.no
 | _,_,_=>.no
theorem zg5:∃ r,OpR X (binaryOp .Mult) r/\OpF X E r z9n:=by
 refine ⟨_,zd7,?_⟩;intro H Y s d1 d2 v1 v2 Q r h1 h2 h;unfold z9n at h;split at h
 ·rename_i k;cases yd h2;split at h
  ·rename_i xs hx;split at h
   ·rename_i hl;obtain ⟨l,vs,e,q1,q2⟩:=zM r hx h1;exact ⟨l,k,vs,e,rfl,q1,by omega,by omega,by rw [q2.length];exact qG hl.1,z9m r h hl.2.2.2 (q2.flat_rep _)⟩
   ·exact h.elim
  ·exact h.elim
 ·exact h.elim
end
structure Fly(P:Program)(w:World)(outer:List Env)(H:Hp)(s:Shared)(C ea:Addr)(H':Hp)(s':Shared):Prop where
 os:s'.os=s.os
 bare:AllBare s'.gens
 un:Un (frs outer) [] H H' s.heap s'.heap
 hok:HOk P w H' s'.heap
 fly:∃ B a0,Heap.FlyingW B outer ea (.ref C) a0 s'.heap/\∀ b o,s'.heap.get? b=some o->(H' b≠none\/((∃ o',s.heap.get? b=some o')/\b∉frs outer))->B.get? b=some o
def CX1(P:Program)(w:World):CXT:=fun outer H s E e s'=>∃ C ea H',e=.ref ea/\Fly P w outer H s C ea H' s'/\E (.ref C) none H'
theorem kZ{env:Env}{l:List Env}{L:Addr}(h:env.frame=some L):frs (env::l)=L::frs l:=by unfold frs;rw [_aX,h]
theorem HOk.cov{P:Program}{w:World}{H:Hp}{h h' B:Heap}(x:HOk P w H h)(c:∀ b o,h.get? b=some o->H b≠none->B.get? b=some o)(k:B.StaysIn h'):HOk P w H h':=fun a o e=> (x a o e).stay (fun b u hb q=>by
  refine k b u (c b u q ?_);rcases hb with rfl | hb;·rw [e];simp
  ·rw [hb];simp) (fun _ q=>q) fun _ _ q=>q
theorem z7K{P:Program}{w:World}{H:Hp}{h:Heap}{a:Addr}{o:HO}(x:xn P w H h a o):∃ ob,h.get? a=some ob:=by cases o with
 | lst xs=>obtain ⟨_,_,_,_,e⟩:=x;exact ⟨_,e⟩ | tup xs=>obtain ⟨_,_,_,ob,e,_⟩:=x;exact ⟨_,e⟩ | dK kvs=>obtain ⟨_,_,_,_,o,_,_,e,_⟩:=x;exact ⟨_,e⟩ | dT kvs=>obtain ⟨_,_,_,_,o,_,_,e,_⟩:=x;exact ⟨_,e⟩ | set S n=>obtain ⟨o,_,_,_,e,_⟩:=x;exact ⟨_,e⟩ | ins C dx fs=>obtain ⟨_,_,_,e,_⟩:=x;exact ⟨_,e⟩ | own y=>exact x | xd fs=>obtain ⟨_,⟨_,_,_,e,_⟩,_⟩:=x;exact ⟨_,e⟩ | rng lo hi=>obtain ⟨_,_,_,e⟩:=x;exact ⟨_,e⟩ | frz ob u=>obtain ⟨e,_⟩:=x;exact ⟨_,e⟩ | tbl ps=>exact ⟨_,(show h.get? a=some _ from x)⟩ | met f y=>exact ⟨_,(show h.get? a=some _ from x)⟩ | ext φ=>obtain ⟨_,e,_⟩:=x;exact e
section
variable {X:Cx}{E:XK}{pins:List (Addr×Obj)}{O:L2.St}{H:Hp}{s:Shared}
theorem Inv.left{outer:List Env}{h' B:Heap}{C ea:Addr}{a0:Value}(I:Inv X pins O H s)(hex:X.ex=[])(ho:X.outer=outer)(fl:Heap.FlyingW B outer ea (.ref C) a0 h')(sm:s.heap.UpToSlots h') (c:∀ b o,s.heap.get? b=some o->(H b≠none\/((∃ o',X.s₀.heap.get? b=some o')/\b∉frs outer))->B.get? b=some o){g:Array GenState}{d:Drawn}{t:Nat}(hg:AllBare g): Fly X.prog X.w outer X.H₀ X.s₀ C ea H ⟨h',g,d,t,s.os⟩:=by
 subst ho;have k:=fl.1;refine ⟨I.os,hg,⟨fun b o e n nf ne=>?_,fun b o e n hf ne=>?_,fun b o e n ne=>?_,fun b o e ne=>?_,I.base.tups,I.base.frzs,I.base.tbls⟩,HOk.cov I.hok (fun b o e n=>c b o e (.inl n)) k,B,a0,fl,fun b o e q=>?_⟩
 ·have e1:=I.base.keep b o e n nf (by rw [hex];exact ne);exact k b o (c b o e1 (.inr ⟨⟨o,e⟩,nf⟩))
 ·obtain ⟨sl,e1⟩:=I.base.slot b o e n hf (by rw [hex];exact ne);obtain ⟨_,o2,e2,hnf⟩:=I.funs.mem hf;rw [e1] at e2;cases e2;obtain ⟨sl2,e3⟩:=sm b _ e1 hnf;exact ⟨sl2,e3⟩
 ·exact I.base.free b o e n (by rw [hex];exact ne)
 ·by_cases hf:b∈frs X.outer
  ·obtain ⟨_,o2,e2,hnf⟩:=I.funs.mem hf;obtain ⟨sl2,e3⟩:=sm b _ e2 hnf;exact ⟨_,e3⟩
  ·obtain ⟨o1,e1⟩:=I.base.there b o e (by rw [hex];exact ne);exact ⟨o1,k b o1 (c b o1 e1 (.inr ⟨⟨o,e⟩,hf⟩))⟩
 ·have back:∀ o1,s.heap.get? b=some o1->B.get? b=some o:=fun o1 e1=>by
   have e2:=c b o1 e1 (q.imp id fun z=>z);have e3:h'.get? b=some o1:=k b o1 e2;have:h'.get? b=some o:=e;rw [e3] at this;cases this;exact e2
  rcases q with q | ⟨⟨o',e'⟩,nf⟩;·cases z:H b with
   | none=>exact absurd z q | some u=>
    obtain ⟨o1,e1⟩:∃ o1,s.heap.get? b=some o1:=by exact z7K (I.hok b u z)
    exact back o1 e1
  ·obtain ⟨o1,e1⟩:=I.base.there b o' e' (by rw [hex];simp);exact back o1 e1
end
section
variable {P:Program}{w:World}{K:W.Frag}{mg:Str->Option Value}{base:Heap}{N:List Str}{qual:Str}{scope:Scope}{f:Addr}{cd:Value}{A:Around}{outer:List Env}{s:Shared}{H:Hp}{E:XK}
theorem wd:(envOfC qual scope s.heap.objs.size f cd).frame=some s.heap.objs.size:=rfl
theorem z5M:Passes (CX1 P w) (z0F (CX1 P w) P w K mg base N qual scope f cd A outer s H E) E:=by
 intro pins O H1 s1 e s' I h;obtain ⟨C,ea,H',he,fl,hE⟩:=h;subst he;obtain ⟨h2,g2,d2,t2,os2⟩:=s';have eos:os2=s1.os:=fl.os;subst eos;have I':=I.call (h':=h2) (g':=g2) (d':=d2) (t':=t2) (ch:=[]) fl.un fl.hok fl.bare (fun b z=>absurd z (by simp));obtain ⟨B,a0,fw,cov⟩:=fl.fly;refine wpAny_leaves_onW (base:=B) (outer:=outer) I.ok.frames wd fw fun h' fw' sm=>?_;refine ⟨C,ea,H',rfl,Inv.left I' rfl rfl fw' sm (fun b o e q=>cov b o e (q.imp id fun z=>?_)) I'.bare,hE⟩;obtain ⟨⟨o',e'⟩,nf⟩:=z;obtain ⟨o1,e1⟩:=I.base.there b o' e' (by show b∉([]:List Addr);simp);refine ⟨⟨o1,e1⟩,fun z=>?_⟩;rw [show (z0F (CX1 P w) P w K mg base N qual scope f cd A outer s H E).stack=envOfC qual scope s.heap.objs.size f cd::outer from rfl,kZ wd] at z;rcases _r.mp z with z | z
 ·have:=_m e';rw [z] at this;exact absurd this (_af _)
 ·exact nf z
theorem zgK {pins:List (Addr×Obj)} {O:L2.St} {H1:Hp} {s1:Shared} {h':Heap} {e C:Addr} {args:List Value} (I:Inv (z0F (CX1 P w) P w K mg base N qual scope f cd A outer s H E) pins O H1 s1) (hx:Heap.MadeExcOf s1.heap h' e (.ref C) args) (hE:E (.ref C) none H1): (z0F (CX1 P w) P w K mg base N qual scope f cd A outer s H E).xe (.ref e) {s1 with heap:=h'}:=by
 have hin:∀ env∈(envOfC qual scope s.heap.objs.size f cd::outer),∀ b,env.frame=some b->b∈frs (envOfC qual scope s.heap.objs.size f cd::outer):=fun env he b hb=>_cc.mpr ⟨env,he,hb⟩;refine wpAny_leaves_madeW (base:=PySem.W.hideAll s1.heap (frs (envOfC qual scope s.heap.objs.size f cd::outer))) (h:=s1.heap) (outer:=outer) I.ok.frames wd (fun b o q=>PySem.W.of_hideAll _ q) (W.funFrames_hide I.stack hin) hx fun h'' t fw tup bt sm=>?_;refine ⟨C,e,H1,rfl,Inv.left I rfl rfl fw ((Heap.UpToSlots.of_keeps hx.keeps).trans sm) (fun b o eb q=>PySem.W.hideAll_get _ eb fun z=>?_) I.bare,hE⟩;rcases q with q | ⟨⟨o',e'⟩,nf⟩;·exact q (I.stkFree b z)
 ·rw [kZ wd] at z;rcases _r.mp z with z | z
  ·have:=_m e';rw [show (z0F (CX1 P w) P w K mg base N qual scope f cd A outer s H E).s₀=s from rfl] at this;rw [z] at this;exact absurd this (_af _)
  ·exact nf z
end
def z9J (X:Cx) (E:XK):Prop:=∀ (pins:List (Addr×Obj)) (O:L2.St) (H1:Hp) (s1:Shared) (h':Heap) (e C:Addr) (args:List Value),Inv X pins O H1 s1->Heap.MadeExcOf s1.heap h' e (.ref C) args->E (.ref C) none H1->X.xe (.ref e) {s1 with heap:=h'}
def zfw(K:W.Frag)(mg:Str->Option Value)(x:Str):Prop:=∃ C,mg x=some (.ref C)/\W.excIn K C bmV "ValueError.__new__"=true
theorem zaY{K:W.Frag}{h₀:Heap}{C:Addr}{bmB:List Value}{newId:String}(X:K.In h₀)(q:W.excIn K C bmB newId=true): ∃ bm N nm q bs hdct sn sub ab col dd k0 k1 k2 k3 k5 mN,h₀.get? C=some (excClassObj nm q C N bs bm hdct sn sub ab col dd k0 k1 k2 k3 k5 newId)/\h₀.Ns N mN/\mN "__init__"=none/\OwnTail h₀ bmB bm:=by
 unfold W.excIn at q;split at q
 ·rename_i dd cd sl ho;split at q
  ·rename_i C' bm k0 k1 k2 k3 n k5 hm hs;simp only [_D,_as,Bool.not_eq_true'] at q;obtain ⟨⟨⟨⟨⟨rfl,rfl⟩,hdel⟩,ht⟩,hok⟩,hni⟩:=q;obtain ⟨nm,bs,mro,ns,qn,hd,sn,sub,ab,col,del⟩:=cd;dsimp only at hm hdel hok hni;subst hm hdel;have hsl:sl=#[k0,k1,k2,k3,some (.builtin n),k5]:=by
    obtain ⟨l⟩:=sl;simp only at hs;rw [hs]
   subst hsl;exact ⟨bm,ns,nm,qn,bs,hd,sn,sub,ab,col,dd,k0,k1,k2,k3,k5,_,X _ _ ho,.of_isNs (W.isNs_of_in X hok),W.nsMap_none_of_in X hok hni,W.tail_of_in X ht⟩
  ·cases q
 ·cases q
section
variable {X:Cx}{E:XK}{pos:Pos}
def z7V(c:Str):FS:=fun _ s=>.ex c s
theorem z9i {x:Str} {np cpos p:Pos} {m:Str} {j:Nat} (hk:zfw X.K X.mg x) (hro:z9J X E) (hc:X.calm=true) (hg:Gl X x) (hd:(x==("__debug__":Str))=false:=by decide): RS X E (.Raise (some (.Call (.Name x np) [.Constant (.str m) j p] [] cpos)) none pos) (z7V x):=by
 intro pins s O H D I h;obtain ⟨Y,Z,st,r,en,h⟩:=h;obtain ⟨C,hm,hq⟩:=hk;have hE:E (.ref C) none H:=h H Y C (wl.refl r) hm;obtain ⟨tl,Nn,nm,q,bs,hdct,sn,sub,ab,col,dd,k0,k1,k2,k3,k5,mN,hC,hN,hni,T⟩:=zaY I.mod.kin hq;refine wpAny_Raise_call_subT (C:=C) (nm:=nm) (q:=q) (N:=Nn) (bs:=bs) (bm:=tl) (hdct:=hdct) (sn:=sn) (sub:=sub) (ab:=ab) (col:=col) (dd:=dd) (k0:=k0) (k1:=k1) (k2:=k2) (k3:=k3) (k5:=k5) _be (mN:=mN) (T.hasType _be.hasBase) (I.ok.hd hc) rfl hni (z0r I hg hm ⟨rfl,?_⟩ hd);refine _bd (thn (xM (X:=X) (zdl (X:=X)) (jc (X:=X)) rfl cpos pins s O H (fun vs H1=>vs=[.str m]/\H1=H) I ⟨rfl,rfl⟩) fun us s2 h2=>?_);obtain ⟨vs,H1,I1,r1,e1,e2⟩:=h2;subst e1 e2;obtain ⟨u,rfl,ru⟩:=r1.one;exact ⟨rfl,by show (1:Nat)<=sizeLine;decide,I1.bk _ _ hC,hN.keeps I1.bk,T.keeps I1.bk,fun h' e mk=>hro pins O _ s2 h' e C [u] I1 mk hE⟩
end
def z1h(N:List Str)(n:Nat)(fs:FS):Mir:=fun ds s=>if ds.length=n then (match fs (zq N ds) s with
 | .ok (.rt d) s'=>.ok d s' | .ok (.nx _) s'=>.ok .non s' | .ex c s'=>.ex c s' | _=>.no) else .no
section
variable {P:Program}{w:World}{K:W.Frag}{mg:Str->Option Value}{base:Heap}
theorem zgt{X:Cx}{E:XK}:Passes CX0 X E:=fun _ _ _ _ _ _ _ h=>h.elim
theorem kh{x qual:Str}{st:Stmt}{f:Addr}{fd:FuncData}{N ps:List Str}{k n:Nat}{fs:FS}(F:Fun K x qual st f fd)(hm:mg x=some (.ref f))(hb:Binds K fd ps [])(S:zt N ps (zg st))(hn:ps.length=n) (body:∀ (cdv:Value)(A:Around)(outer:List Env)(s:Shared)(H:Hp)(E:XK),z0k k (A.deeper (envOfC qual (zg st) s.heap.objs.size f cdv))->(z0F (CX1 P w) P w K mg base N qual (zg st) f cdv A outer s H E).calm=true-> RSs (z0F (CX1 P w) P w K mg base N qual (zg st) f cdv A outer s H E) E (wY st) fs):Has P w K mg base (CX1 P w) x (k+1) (z1h N n fs):=by
 subst hn;obtain ⟨oc,od,kV,doc,pm,an,cdv,ct,osl,rfl,lk,hcd⟩:=F.ex;refine ⟨f,_,ps,zfI lk hcd S (fun vs H Q E h=>?_) (fun A outer s H vs Q E hr h=>?_),hb,F.kp,hm⟩
 ·obtain ⟨Y,s,ds,_,dn,h⟩:=h;unfold z1h at h;split at h;·rename_i e;rw [dn.length];exact e
  ·exact h.elim
 ·obtain ⟨Y,st0,ds,r,dn,h⟩:=h;refine ⟨_,body cdv A outer s H E hr (by show A.handled.isNone=true;rw [show A.handled=none from hr.hd];rfl),Y,zq N ds,st0,r,jD dn,?_⟩;unfold z1h at h;split at h
  ·split at h
   ·rename_i d s' e;rw [e];intro fv H' Y' stp fd;cases fv with
    | rt v=>exact h v H' Y' stp fd | _=>exact (show False from fd).elim
   ·rename_i Z s' e;rw [e];intro fv H' Y' stp fd;cases fv with
    | nx v=>exact h .non H' Y' stp (by simp [Den]) | _=>exact (show False from fd).elim
   ·rename_i c s' e;rw [e];exact h
   ·exact h.elim
  ·exact h.elim
def zkD(M:Mir):Mir:=fun ds s=>match M ds s with | .ex _ _=>.no | r=>r
end
def ur(f:FS):FS:=fun Z s=>match f Z s with | .ex _ _=>.no | r=>r
theorem z1K{X:Cx}{E:XK}{st:Stmt}{f:FS}(h:RS X.nox E0 st f):RS X E st (ur f):=fun pins s O H D I hw=>by
 obtain ⟨Y,Z,st0,r,en,q⟩:=hw;have q':okR (gm X) E0 H Y (FlD (gm X)) (f Z st0) (z2T D):=by
  unfold ur at q;cases e:f Z st0 with
  | ok d s'=>rw [e] at q;exact q | ex c s'=>rw [e] at q;exact q.elim | no=>rw [e] at q;exact q.elim
 exact _x (h pins s O H D (I.wish _) ⟨Y,Z,st0,r,en,q'⟩) (fun _ _ q=>q.unwish) fun _ _ z=>False.elim z
@[simp] theorem z0l (f:FS)(Z:Ev)(s:Sto):ur f Z s=(match f Z s with | .ex _ _=>.no | r=>r):=id rfl
@[simp] theorem zhJ (c:Str)(Z:Ev)(s:Sto):z7V c Z s=.ex c s:=id rfl
theorem z7D{P:Program}{w:World}{K:W.Frag}{mg:Str->Option Value}{base:Heap}{N:List Str}{qual:Str}{scope:Scope}{f:Addr}{cd:Value}{A:Around}{outer:List Env}{s:Shared}{H:Hp}{E:XK}: z9J (z0F (CX1 P w) P w K mg base N qual scope f cd A outer s H E) E:=fun _ _ _ _ _ _ _ _ I hx hE=>zgK I hx hE
end Dd
namespace PySem
open PySem.Sem (wp)
section
variable {M:Model}{A:Around}{E:Value->Shared->Prop}
theorem qm{h:Heap}{g:Array GenState}{d:Drawn}{t:Nat}{os:OsState}{e C D:Addr}{oe:Obj}{Q:Bool->Shared->Prop} {nm q:Str}{N:Addr}{bs bm:List Value}{hdct:Bool}{sn:List Str}{sub:List Value}{ab:Bool}{col:Option Bool}{dd:Option Addr}{k0 k1 k2 k3 k5:Option Value}{newId:String} {nm' q':Str}{N':Addr}{bs' bm':List Value}{hdct':Bool}{sn':List Str}{sub':List Value}{ab':Bool}{col':Option Bool}{dd':Option Addr}{k0' k1' k2' k3' k5':Option Value}{newId':String} (hC:h.get? C=some (excClassObj nm q C N bs bm hdct sn sub ab col dd k0 k1 k2 k3 k5 newId))(hD:h.get? D=some (excClassObj nm' q' D N' bs' bm' hdct' sn' sub' ab' col' dd' k0' k1' k2' k3' k5' newId')) (he:h.get? e=some oe)(hcls:oe.cls=.ref C)(hbase:bm'.contains (.type "BaseException")=true)(hsub:(Value.ref C::bm).contains (.ref D)=true) (hq:Q true ⟨h,g,d,t,os⟩):wpAny M A (excMatches (.ref e) (.ref D)) Q E ⟨h,g,d,t,os⟩:=by
 have hcB:(Value.ref D::bm').contains (.type "BaseException")=true:=by rw [List.contains_cons,hbase,Bool.or_true]
 have f:=tc_notTuple;unfold excMatches;repeat (first | (with_reducible refine _ak he ?_;rw [hcls]) | with_reducible refine _ak hD ?_ | with_reducible refine _ak hC ?_ | (with_reducible refine wpAny_isSubtype_exc hD ?_;rw [hcB]) | (with_reducible refine wpAny_isSubtype_exc hC ?_;rw [hsub]) | wp_step)
 exact hq
end
end PySem
namespace Dd
open L2
theorem _root_.L2.Inv.locals{X:Cx}{pins:List (Addr×Obj)}{O:L2.St}{H:Hp}{s:Shared}{h':Heap}{m':Str->Option Value}{t:Nat}(I:L2.Inv X pins O H s)(hn:h'.Ns X.env.locals m')(sb:Heap.SameBut X.env.locals s.heap h'): L2.Inv X pins (List.replicate X.N.length none) H {s with heap:=h',toks:=t}:=by
 have k:∀ b o,b≠X.env.locals->s.heap.get? b=some o->h'.get? b=some o:=fun b o n e=>sb.extBut _ _ n e;have neL:∀ b o,X.s₀.heap.get? b=some o->b≠X.env.locals:=fun b o e=>_u (_q (_m e) I.ok.above);refine ⟨I.ok,I.os,I.bare,⟨fun b o e n nf ne=>k b o (neL b o e) (I.base.keep b o e n nf ne),fun b o e n hf ne=>?_,I.base.free,fun b o e ne=>?_,I.base.tups,I.base.frzs,I.base.tbls⟩,⟨m',hn,fun i x v h1 h2=>?_⟩,fun x c e=>?_,I.free,I.freeC,fun p hp=>?_,fun a o e=>?_,by simp⟩
 ·obtain ⟨sl,e1⟩:=I.base.slot b o e n hf ne;exact ⟨sl,k b _ (neL b o e) e1⟩
 ·obtain ⟨o1,e1⟩:=I.base.there b o e ne;exact ⟨o1,k b _ (neL b o e) e1⟩
 ·rw [_a0] at h2;split at h2<;>cases h2
 ·obtain ⟨v,o,ho,hd⟩:=I.cell x c e;exact ⟨v,o,k c o (I.cne x c e) ho,hd⟩
 ·obtain ⟨q1,q2,q3,q4⟩:=I.pin p hp;exact ⟨k p.1 p.2 q3 q1,q2,q3,q4⟩
 ·refine (I.hok a o e).stay (fun b u hb q=>k b u (fun z=>?_) q) (fun _ q=>q) fun _ _ q=>q;have:=I.free;rw [<- z] at this;rcases hb with rfl | hb;·rw [e] at this;cases this
  ·rw [hb] at this;cases this
abbrev Cx.at_(X:Cx)(pn:List (Addr×Obj))(xe:Value->Shared->Prop):Cx:={X with pn:=pn,xe:=xe}
abbrev Cx.mk_(X:Cx)(e:Addr)(pn:List (Addr×Obj)):Cx:={X with A:=X.A.mark (some (.ref e)),calm:=false,pn:=pn,xe:=fun _ _=>False}
theorem Cx.ok_at{X:Cx}(ok:X.Ok){pn:List (Addr×Obj)}{xe:Value->Shared->Prop}:(Cx.at_ X pn xe).Ok:= ⟨ok.mod,ok.kind,ok.glob,ok.blt,ok.above,ok.inj,ok.has,ok.cab,ok.hd,ok.frames,ok.stk,ok.exf,ok.bs,ok.bsz,ok.noex,ok.exfs,ok.funs,ok.frf⟩
theorem Cx.ok_of{X:Cx}{pn:List (Addr×Obj)}{xe:Value->Shared->Prop}(ok:(Cx.at_ X pn xe).Ok):X.Ok:= ⟨ok.mod,ok.kind,ok.glob,ok.blt,ok.above,ok.inj,ok.has,ok.cab,ok.hd,ok.frames,ok.stk,ok.exf,ok.bs,ok.bsz,ok.noex,ok.exfs,ok.funs,ok.frf⟩
theorem Cx.ok_mk{X:Cx}(ok:X.Ok){e:Addr}{pn:List (Addr×Obj)}:(Cx.mk_ X e pn).Ok:= ⟨ok.mod,ok.kind,ok.glob,ok.blt,ok.above,ok.inj,ok.has,ok.cab,(fun h=>by cases h),ok.frames,ok.stk,ok.exf,ok.bs,ok.bsz,ok.noex,ok.exfs,ok.funs,ok.frf⟩
section
variable {X:Cx}{pins:List (Addr×Obj)}{O:L2.St}{H:Hp}{s:Shared}
theorem _root_.L2.Inv.at_(I:L2.Inv X pins O H s){xe:Value->Shared->Prop}:L2.Inv (Cx.at_ X (X.pn++pins) xe) [] O H s:= ⟨Cx.ok_at I.ok,I.os,I.bare,I.base,I.loc,I.cell,I.free,I.freeC,fun p hp=>I.pin p (by simpa using hp),I.hok,I.len⟩
theorem _root_.L2.Inv.of_at{xe:Value->Shared->Prop}{pins':List (Addr×Obj)}(I:L2.Inv (Cx.at_ X (X.pn++pins) xe) pins' O H s):L2.Inv X pins O H s:= ⟨Cx.ok_of I.ok,I.os,I.bare,I.base,I.loc,I.cell,I.free,I.freeC,fun p hp=>I.pin p (_aQ _ hp),I.hok,I.len⟩
theorem _root_.L2.Inv.mk_(I:L2.Inv X pins O H s){e:Addr}:L2.Inv (Cx.mk_ X e (X.pn++pins)) [] O H s:= ⟨Cx.ok_mk I.ok,I.os,I.bare,I.base,I.loc,I.cell,I.free,I.freeC,fun p hp=>I.pin p (by simpa using hp),I.hok,I.len⟩
theorem _root_.L2.Inv.of_mk{e:Addr}{pins':List (Addr×Obj)}(ok:X.Ok)(I:L2.Inv (Cx.mk_ X e (X.pn++pins)) pins' O H s):L2.Inv X pins O H s:= ⟨ok,I.os,I.bare,I.base,I.loc,I.cell,I.free,I.freeC,fun p hp=>I.pin p (_aQ _ hp),I.hok,I.len⟩
theorem Fly.land{P:Program}{w:World}{outer:List Env}{H H':Hp}{s s':Shared}{C ea:Addr}{h5 B:Heap}{a0:Value}(un:Un (frs outer) [] H H' s.heap s'.heap)(hok:HOk P w H' s'.heap)(fw:Heap.FlyingW B outer ea (.ref C) a0 s'.heap) (cov:∀ b o,s'.heap.get? b=some o->(H' b≠none\/((∃ o',s.heap.get? b=some o')/\b∉frs outer))->B.get? b=some o)(fw5:Heap.FlyingW B outer ea (.ref C) a0 h5)(sm:s'.heap.UpToSlots h5): s.heap.get? ea=none/\H' ea=none/\Un (frs outer) [] H (upd H' ea (zbV C ea)) s.heap h5/\HOk P w (upd H' ea (zbV C ea)) h5/\∃ oe,h5.get? ea=some oe/\oe.cls=.ref C:=by
 have k:=fw5.1;obtain ⟨oe,vs,T,oT,ts,he,⟨hcls,_⟩,hd,_⟩:=fw5.2.2.2;obtain ⟨oe',vs',_,_,_,he',_,hd',_⟩:=fw.2.2.2;have new:s.heap.get? ea=none:=by cases z:s.heap.get? ea with
  | none=>rfl | some o=>
   exfalso;obtain ⟨o1,e1⟩:=un.there ea o z (by simp);by_cases hf:ea∈frs outer
   ·obtain ⟨_,o2,e2,hnf⟩:=fw.2.2.1.mem hf;rw [he'] at e2;cases e2;exact hnf _ hd'
   ·have:=cov ea o1 e1 (.inr ⟨⟨o,z⟩,hf⟩);rw [fw.2.1] at this;cases this
 have hn:H' ea=none:=by cases z:H' ea with
  | none=>rfl | some u=>
   exfalso;have:=cov ea _ he' (.inl (by rw [z];simp));rw [fw.2.1] at this;cases this
 have ne:∀ b o,s.heap.get? b=some o->b≠ea:=fun b o e z=>by rw [z,new] at e;cases e
 have neH:∀ b u,H' b=some u->b≠ea:=fun b u e z=>by rw [z,hn] at e;cases e
 refine ⟨new,hn,⟨fun b o e n nf _=>?_,fun b o e n hf _=>?_,fun b o e n _=>?_,fun b o e _=>?_,fun b xs e=>?_,fun b o u e=>?_,fun b ps e=>?_⟩,fun a o e=>?_,oe,he,hcls⟩
 ·have e1:=un.keep b o e n nf (by simp);exact k b o (cov b o e1 (.inr ⟨⟨o,e⟩,nf⟩))
 ·obtain ⟨sl,e1⟩:=un.slot b o e n hf (by simp);obtain ⟨_,o2,e2,hnf⟩:=fw.2.2.1.mem hf;rw [e1] at e2;cases e2;obtain ⟨sl2,e3⟩:=sm b _ e1 hnf;exact ⟨sl2,e3⟩
 ·rw [zE (ne b o e)];exact un.free b o e n (by simp)
 ·by_cases hf:b∈frs outer
  ·obtain ⟨_,o2,e2,hnf⟩:=fw.2.2.1.mem hf;obtain ⟨sl2,e3⟩:=sm b _ e2 hnf;exact ⟨_,e3⟩
  ·obtain ⟨o1,e1⟩:=un.there b o e (by simp);exact ⟨o1,k b o1 (cov b o1 e1 (.inr ⟨⟨o,e⟩,hf⟩))⟩
 ·have q:=un.tups b xs e;rw [zE (neH b _ q)];exact q
 ·have q:=un.frzs b o u e;rw [zE (neH b _ q)];exact q
 ·obtain ⟨more,q⟩:=un.tbls b ps e;exact ⟨more,by rw [zE (neH b _ q)];exact q⟩
 ·by_cases z:a=ea
  ·subst z;rw [yn] at e;cases e;exact ⟨⟨oe,vs,he,hcls,hd⟩,⟨oe,he⟩,fun h1 h2 ⟨o,ws,q1,q2,q3⟩ st=>⟨o,ws,st o q1,q2,q3⟩⟩
  ·rw [zE z] at e;refine (HOk.cov hok (fun b o e n=>cov b o e (.inl n)) k a o e).stay (fun b u _ q=>q) (fun b q=>?_) fun b xs q=>?_;·rw [zE (neH b _ q)];exact q
   ·rw [zE (neH b _ q)];exact q
end
def zhF(K:W.Frag)(mg:Str->Option Value)(x y:Str):Prop:=∃ C D,mg x=some (.ref C)/\mg y=some (.ref D)/\W.excIn K C bmV "ValueError.__new__"=true/\W.excIn K D bmV "ValueError.__new__"=true/\ ∀ h₀:Heap,K.In h₀->∃ bm N nm q bs hdct sn sub ab col dd k0 k1 k2 k3 k5,h₀.get? C=some (excClassObj nm q C N bs bm hdct sn sub ab col dd k0 k1 k2 k3 k5 "ValueError.__new__")/\(Value.ref C::bm).contains (.ref D)=true
section
variable {prog:Program}{w:World}{A:Around}{E:Value->Shared->Prop}{s:Shared}{env:Env}
theorem z1F {e C D:Addr} {t:Expr} {n:Str} {b₀:Stmt} {suite:List Stmt} {pos:Pos} {uB:List ExceptHandler} {Q:Flow->Shared->Prop} (h:wpAny (model prog w) (A.mark (some (.ref e))) (eval t env) (fun c s₁=>c=.ref D/\ (∃ bm N nm q bs hdct sn sub ab col dd k0 k1 k2 k3 k5 newId,s₁.heap.get? C=some (excClassObj nm q C N bs bm hdct sn sub ab col dd k0 k1 k2 k3 k5 newId)/\(Value.ref C::bm).contains (.ref D)=true)/\ (∃ bm N nm q bs hdct sn sub ab col dd k0 k1 k2 k3 k5 newId,s₁.heap.get? D=some (excClassObj nm q D N bs bm hdct sn sub ab col dd k0 k1 k2 k3 k5 newId)/\bm.contains (.type "BaseException")=true)/\(∃ oe,s₁.heap.get? e=some oe/\oe.cls=.ref C)/\ wpAny (model prog w) (A.mark (some (.ref e))) (setFlight (.ref e) none) (fun _ s₂=> wpAny (model prog w) (A.mark (some (.ref e))) (storeName env n (.ref e)) (fun _ s₃=> wpAny (model prog w) (A.mark (some (.ref e))) (execs (b₀::suite) env) (fun f s₄=>wpAny (model prog w) A (do bindName env n .none;unbindBehindTheSuite env n pos) (fun _ s₅=>Q f s₅) E s₄) (AsSuiteRaised (model prog w) (A.mark (some (.ref e))) env n pos (notedBy (model prog w) (A.mark (some (.ref e))) env (cameBackBy (model prog w) A env E))) s₃) (notedBy (model prog w) (A.mark (some (.ref e))) env (cameBackBy (model prog w) A env E)) s₂) (notedBy (model prog w) (A.mark (some (.ref e))) env (cameBackBy (model prog w) A env E)) s₁) (notedBy (model prog w) (A.mark (some (.ref e))) env (cameBackBy (model prog w) A env E)) s): wpAny (model prog w) A (handleBy (.ref e) env (.ExceptHandler (some t) (some n) (b₀::suite) pos::uB)) Q E s:=by
 refine wpAny_handleBy_cons (codeAny_handlers_test (_x h (fun c s₁ h₁=>?_) fun _ _ y=>y)) (by intro q;cases q);obtain ⟨rfl,⟨bm,N,nm,q,bs,hdct,sn,sub,ab,col,dd,k0,k1,k2,k3,k5,newId,hC,hsub⟩,⟨bm',N',nm',q',bs',hdct',sn',sub',ab',col',dd',k0',k1',k2',k3',k5',newId',hD,hbase⟩,⟨oe,he,hcls⟩,hk⟩:=h₁;obtain ⟨hh,g,d,tk,os⟩:=s₁;exact qm hC hD he hcls hbase hsub (codeAny_handlers_suite_as hk)
end
def zgJ(cs:List Str)(fb:FS)(j:Nat)(fh:FS):FS:=fun Z s=>match fb Z s with
 | .ex c s1=>if c∈cs then (match fh ((List.replicate Z.length none).set j (some (.exc c))) s1 with
  | .ok (.rt d) s2=>.ok (.rt d) s2 | _=>.no) else .no | .ok (.rt d) s1=>.ok (.rt d) s1 | _=>.no
section
variable {X:Cx}{E:XK}{pos hpos np:Pos}
theorem ziB {cs:List Str} {y n:Str} {body:List Stmt} {b₀:Stmt} {suite:List Stmt} {j:Nat} {fb fh:FS} (hst:X.stack=X.env::X.outer) (hfr:X.env.frame=some X.env.locals) (hex:X.ex=[]) (hcs:∀ c∈cs,zhF X.K X.mg c y) (hg:Gl X y) (hN:X.N.Nodup) (hj:X.N[j]? = some n) (hloc:X.env.scope.names.lookup n=some .local) (hb:∀ (pn:List (Addr×Obj)) (xe:Value->Shared->Prop) (E1:XK),Passes (CX1 X.prog X.w) (Cx.at_ X pn xe) E1->RSs (Cx.at_ X pn xe) E1 body fb) (hh:∀ (e:Addr) (pn:List (Addr×Obj)),RSs (Cx.mk_ X e pn) E0 (b₀::suite) fh) (hdb:(y==("__debug__":Str))=false:=by decide): RS X E (.Try body [.ExceptHandler (some (.Name y np)) (some n) (b₀::suite) hpos] [] [] pos) (zgJ cs fb j fh):=by
 intro pins s O H D I hw;obtain ⟨Y,Z,st0,r,en,h⟩:=hw;have hlen:Z.length=X.N.length:=by rw [en.len,I.len]
 refine wpAny_Try_except ?_;generalize hEb:(fun (e:Value) (s₁:Shared)=>wpAny (model X.prog X.w) X.A (noteFrame e X.env) (fun _ s₂=>wpAny (model X.prog X.w) X.A (setFlight e none) (fun _ s₃=>wpAny (model X.prog X.w) X.A (handleBy e X.env [.ExceptHandler (some (.Name y np)) (some n) (b₀::suite) hpos]) (SP X pins D) X.xe s₃) X.xe s₂) X.xe s₁)=Eb;let E1:XK:=fun v _ H'=>∃ c Y' st' C d s2,v=.ref C/\c∈cs/\X.mg c=some (.ref C)/\wl (gm X) H Y H' Y' st'/\fh ((List.replicate Z.length none).set j (some (.exc c))) st'=.ok (.rt d) s2/\okR (gm X) E H Y (FlD (gm X)) (.ok (.rt d) s2) (z2T D);have pass:Passes (CX1 X.prog X.w) (Cx.at_ X (X.pn++pins) Eb) E1:=by
  intro pins' O' H1 s1 e s' I1 hcx;obtain ⟨C,ea,H',he,fl,hE⟩:=hcx;subst he;obtain ⟨c,Y',st',C',d,s2,eC,hcm,hmc,stp,efh,ok⟩:=hE;cases eC;have J1:=I1.of_at;obtain ⟨B,a0,fw,cov⟩:=fl.fly;have fw:Heap.FlyingW B (X.env::X.outer) ea (.ref C) a0 s'.heap:=by rw [<- hst];exact fw
  have un:Un (frs (X.env::X.outer)) [] H1 H' s1.heap s'.heap:=by rw [<- hst];exact fl.un
  have cov:∀ b o,s'.heap.get? b=some o->(H' b≠none\/((∃ o',s1.heap.get? b=some o')/\b∉frs (X.env::X.outer)))->B.get? b=some o:=by rw [<- hst];exact cov
  have land:∀ h5,Heap.FlyingW B (X.env::X.outer) ea (.ref C) a0 h5->s'.heap.UpToSlots h5->L2.Inv X pins O' (upd H' ea (zbV C ea)) {s' with heap:=h5}/\H' ea=none/\∃ oe,h5.get? ea=some oe/\oe.cls=.ref C:=fun h5 fw5 sm=>by
   obtain ⟨_,hn,un5,hok5,oe⟩:=Fly.land un fl.hok fw cov fw5 sm;exact ⟨J1.call' (s':={s' with heap:=h5}) (ch:=[]) fl.os (by rw [hst];exact un5) hok5 fl.bare (fun b z=>absurd z (by simp)),hn,oe⟩
  rw [<- hEb];have hfrm:X.A.frames=some (X.env::X.outer):=by rw [<- hst];exact J1.ok.frames
  show wpAny (model X.prog X.w) X.A (noteFrame (.ref ea) X.env) _ _ s';refine wpAny_looks_onW (base:=B) hfrm hfr fw fun h4 held sm4=>?_;refine wpAny_landsW held fun h5 fw5 sm5=>?_;obtain ⟨I5,hn5,oe5⟩:=land h5 fw5 (sm4.trans sm5);obtain ⟨C2,D2,hm2,hmy,q1,q2,hsub⟩:=hcs c hcm;rw [hmc] at hm2;cases hm2;refine z1F (C:=C) (D:=D2) (z0r (X:=Cx.mk_ X ea (X.pn++pins)) I5.mk_ hg hmy ⟨rfl,?_,?_,oe5,?_⟩ hdb)
  ·obtain ⟨bm,N,nm,q,bs,hdct,sn,sub,ab,col,dd,k0,k1,k2,k3,k5,hC,hs⟩:=hsub _ I5.kIn;exact ⟨bm,N,nm,q,bs,hdct,sn,sub,ab,col,dd,k0,k1,k2,k3,k5,_,hC,hs⟩
  ·obtain ⟨bm,N,nm,q,bs,hdct,sn,sub,ab,col,dd,k0,k1,k2,k3,k5,mN,hC,hNs,hni,T⟩:=zaY I5.kIn q2;exact ⟨bm,N,nm,q,bs,hdct,sn,sub,ab,col,dd,k0,k1,k2,k3,k5,_,hC,T.hasType _be.hasBase⟩
  ·refine lands_againW fw5 fun h6 fw6 sm6=>?_;obtain ⟨I6,hn6,oe6⟩:=land h6 fw6 ((sm4.trans sm5).trans sm6);refine jA (X:=Cx.mk_ X ea (X.pn++pins)) I6.mk_ hN hj (.inl hloc) (show xK (.ref ea) (.ref ea) from rfl) (fun s7 I7=>?_) (.inr hloc);have stl:wl (gm X) H' Y' (upd H' ea (zbV C ea)) Y' st':=wl.lay stp.rep hn6 (by intro vs z;cases z);have stl2:=stp.trans stl;have enh:ux (gm X) (upd H' ea (zbV C ea)) Y' ((List.replicate Z.length none).set j (some (.exc c))) (O'.set j (some (.ref ea))):=by
    refine ⟨by rw [List.length_set,List.length_replicate,List.length_set,hlen];exact J1.len.symm,fun i d' hi=>?_⟩;by_cases z:j=i
    ·subst z;have hjl:j<(List.replicate Z.length (none:Option Dd.D)).length:=by
      have:=(_c.mp hi).1;simpa using this
     rw [_P hjl] at hi;cases hi;refine ⟨.ref ea,by rw [_P (by rw [J1.len,<- hlen];simpa using hjl)],?_⟩;simp only [Den];exact ⟨ea,C,rfl,hmc,yn⟩
    ·rw [_K z,_a0] at hi;split at hi<;>cases hi
   have run:=hh ea (X.pn++pins) [] s7 (O'.set j (some (.ref ea))) (upd H' ea (zbV C ea)) {nx:=fun _ _=>False,rt:=D.rt} I7 ⟨Y',_,st',stl2.rep,enh,by
    rw [efh];intro fv H2 Y2 stp2 fd;cases fv with
    | rt v=>exact ok (.rt v) H2 Y2 (stl2.trans stp2) fd | _=>exact (show False from fd).elim⟩;refine _x run (fun fl s8 q8=>?_) fun _ _ z=>z.elim;cases fl with
   | ret u=>
    obtain ⟨v,O8,H8,I8,rv,q8⟩:=q8;have J8:=I8.of_mk J1.ok;obtain ⟨m,hn,_⟩:=J8.loc;refine wpAny_nameGoes (env:=X.env) hloc hn (by rw [J1.ok.kind];rfl) fun h9 m9 hn9 sb9=>?_;exact ⟨v,_,H8,J8.locals hn9 sb9,rv,q8⟩ | next=>obtain ⟨_,_,_,z⟩:=q8;exact z.elim | brk=>obtain ⟨_,_,_,z⟩:=q8;exact z.elim | cont=>obtain ⟨_,_,_,z⟩:=q8;exact z.elim
 have run:=hb (X.pn++pins) Eb E1 pass [] s O H {nx:=fun _ _=>False,rt:=D.rt} I.at_ ⟨Y,Z,st0,r,en,?_⟩
 ·refine _x run (fun fl s1 q1=>?_) fun _ _ z=>z;cases fl with
  | ret u=>
   obtain ⟨v,O8,H8,I8,rv,q8⟩:=q1;exact ⟨v,O8,H8,I8.of_at,rv,q8⟩ | next=>obtain ⟨_,_,_,z⟩:=q1;exact z.elim | brk=>obtain ⟨_,_,_,z⟩:=q1;exact z.elim | cont=>obtain ⟨_,_,_,z⟩:=q1;exact z.elim
 ·unfold zgJ at h;cases e:fb Z st0 with
  | no=>rw [e] at h;exact h.elim | ok fl s1=>
   rw [e] at h;cases fl with
   | rt d=>
    intro fv H2 Y2 stp2 fd;cases fv with
    | rt v=>exact h (.rt v) H2 Y2 stp2 fd | _=>exact (show False from fd).elim
   | _=>exact h.elim
  | ex c s1=>
   rw [e] at h;intro H' Y' C stp hmc;simp only at h;split at h
   ·rename_i hcm;cases e2:fh ((List.replicate Z.length none).set j (some (.exc c))) s1 with
    | no=>rw [e2] at h;exact h.elim | ex _ _=>rw [e2] at h;exact h.elim | ok fl s2=>
     rw [e2] at h;cases fl with
     | rt d=>exact ⟨c,Y',s1,C,d,s2,rfl,hcm,hmc,stp,e2,h⟩ | _=>exact h.elim
   ·exact h.elim
end
end Dd
namespace PySem
open PySem.Sem (wp)
open PySem.W
structure ExcCls(K:Frag)(C:Addr):Prop where
 ga:findIn K (.ref C) "__getattribute__"=some (some (.builtin "BaseException.__getattribute__"))
 gh:findIn K (.ref C) "__getattr__"=some none
 cl:findIn K (.ref C) "__class__"=some (some (.builtin "object.__class__"))
 ob:mroIn K C (.type "object")=some true
 be:mroIn K C (.type "BaseException")=some true
 ty:∃ d cd sl,K.lookup C=some ⟨.type "type",d,.cls cd,sl⟩
section
variable {prog:Program}{w:World}{A:Around}{E:Value->Shared->Prop}{K:Frag}{h:Heap}{g:Array GenState}{d:Drawn}{t:Nat}{os:OsState}{a C:Addr}{o:Obj}
theorem zhe{M:Model}(hx:h.get? a=some o)(hc:o.cls=.ref C):Looks M h (typeOf (.ref a)) (.ref C):=by
 intro A' Q' E' s' k q;unfold typeOf;refine _a (wpAny_loadPart (k _ _ hx) ?_);rw [hc];exact _g q
theorem z4r{R:Result->Shared->Prop}(X:K.In h)(Fx:ExcCls K C)(hx:h.get? a=some o)(hc:o.cls=.ref C)(hq:R (.ok (.ret (.ref C))) ⟨h,g,d,t,os⟩): codeAny (model prog w) A (.call (.builtin "getset_descriptor.__get__") ⟨[.builtin "object.__class__",.ref a,.ref C],[]⟩) R ⟨h,g,d,t,os⟩:=by
 have hT5:(⟨h,g,d,t,os⟩:Shared).TypeIs (.builtin "object.__class__") "getset_descriptor":=_bJ;have L1:=looks_mroIn (M:=model prog w) X Fx.ob;rw [<- F.owner_object_class] at L1;refine codeAny_call_builtin F.slot_gs_get.plain F.entry_gs_get (F.slot_gs_get.check _ _ _ _ _ _ _ _ hT5 (F.args_gs_get _ _ _) ?_);repeat (any_goals (first | assumption | (with_reducible refine _ak hx ?_;rw [hc]) | (with_reducible refine L1.at ?_) | wp_step))
 refine ⟨Code.quiet_builtin _ (by decide +kernel),codeAny_builtin F.entry_object_class ?_⟩;repeat (any_goals (first | assumption | (with_reducible refine _ak hx ?_;rw [hc]) | wp_step))
theorem z1w{tk:Tok}{Q:Fin->Shared->Prop}(X:K.In h)(Fx:ExcCls K C)(hx:h.get? a=some o)(hc:o.cls=.ref C)(hq:Q (.done (.ret (.ref C))) ⟨h,g,d,t,os⟩): wpAny (model prog w) A (Builtin.«object.__getattribute__» ⟨[.ref a,.str "__class__" tk],[]⟩) Q E ⟨h,g,d,t,os⟩:=by
 have hT5:(⟨h,g,d,t,os⟩:Shared).TypeIs (.builtin "object.__class__") "getset_descriptor":=_bJ;have L4:=looks_findIn (M:=model prog w) X Fx.cl;have f5:=_bJ;have f6:=F.slot_gs_get.lookup;have f7:=F.slot_gs_set.lookup;repeat (any_goals (first | assumption | (with_reducible refine _ak hx ?_;rw [hc]) | (with_reducible refine L4.at ?_) | wp_step))
 refine z4r X Fx hx hc ?_;repeat (any_goals (first | assumption | wp_step))
theorem z6b{M:Model}{nameV:Value}{Q:Unit->Shared->Prop}(X:K.In h)(Fx:ExcCls K C)(hx:h.get? a=some o)(hc:o.cls=.ref C)(hq:Q () ⟨h,g,d,t,os⟩):wpAny M A (checkBuiltinCall "BaseException.__getattribute__" ⟨[.ref a,nameV],[]⟩) Q E ⟨h,g,d,t,os⟩:=by
 have hk:builtinKind "BaseException.__getattribute__"=some .slot:=by decide +kernel
 have hsplit:splitId "BaseException.__getattribute__"=some ("BaseException","__getattribute__"):=by decide +kernel
 have L1:=looks_mroIn (M:=M) X Fx.be;have ha:=F.args_bexc_ga (.ref a) nameV;simp only [checkBuiltinCall,hk,hsplit];refine _a ?_
 ·unfold isInstance;repeat (first | (with_reducible refine _ak hx ?_;rw [hc]) | (with_reducible refine L1.at ?_) | wp_step)
  exact hq
theorem z2M{tk:Tok}{R:Result->Shared->Prop}(X:K.In h)(Fx:ExcCls K C)(hx:h.get? a=some o)(hc:o.cls=.ref C)(hq:R (.ok (.ret (.ref C))) ⟨h,g,d,t,os⟩): codeAny (model prog w) A (.call (.builtin "BaseException.__getattribute__") ⟨[.ref a,.str "__class__" tk],[]⟩) R ⟨h,g,d,t,os⟩:= codeAny_call_builtin F.attrBase_ValueError.ga.plain F.entry_bexc_ga (z6b X Fx hx hc (z1w X Fx hx hc hq))
theorem z5u{tk:Tok}{fill expr:Bool}{Q:Value->Shared->Prop}(X:K.In h)(Fx:ExcCls K C)(hx:h.get? a=some o)(hc:o.cls=.ref C)(hq:Q (.ref C) ⟨h,g,d,t,os⟩): wpAny (model prog w) A (getAttrBy (.ref a) (.str "__class__" tk) fill expr) Q E ⟨h,g,d,t,os⟩:=by
 have f3:=F.attrBase_ValueError.ga.bind (.ref a);have hx0:(expr&&onTheHeap (Value.builtin "BaseException.__getattribute__"))=false:=by cases expr<;>rfl
 have hx2:(Value.builtin "BaseException.__getattribute__"==Value.builtin "object.__getattribute__")=false:=by decide +kernel
 have hx1:(onTheHeap (Value.ref C)&&Value.builtin "BaseException.__getattribute__"==Value.builtin "object.__getattribute__")=false:=by rw [hx2];rfl
 have L1:=looks_findIn (M:=model prog w) X Fx.ga;have L2:=looks_findIn (M:=model prog w) X Fx.gh;repeat (any_goals (first | assumption | (with_reducible refine _ak hx ?_;rw [hc]) | (with_reducible refine L1.at ?_) | (with_reducible refine L2.at ?_) | wp_step))
 refine z2M X Fx hx hc ?_;repeat (any_goals (first | assumption | wp_step))
theorem z2X{Q:Option Value->Shared->Prop}(X:K.In h)(Fx:ExcCls K C)(hx:h.get? a=some o)(hc:o.cls=.ref C)(hq:Q (some (.ref C)) ⟨h,g,d,t+1,os⟩):wpAny (model prog w) A (getAttr? (.ref a) "__class__") Q E ⟨h,g,d,t,os⟩:=by
 unfold getAttr? getAttrBy?;repeat (any_goals (first | assumption | with_reducible apply z5u X Fx hx hc | (with_reducible refine _ak hx ?_;rw [hc]) | wp_step))
end
theorem zbP{K:Frag}{a C:Addr}(Fx:ExcCls K C):KitX K (.ref a) (.ref C) (fun h=>∃ o,h.get? a=some o/\o.cls=.ref C) where
 ty:=fun _ _ _ ⟨_,hx,hc⟩=>zhe hx hc;it:=fun _ _ X _=>by
  obtain ⟨dd,cd,sl,ho⟩:=Fx.ty;intro A' Q' E' s' k q;unfold isType loadHead;exact _a (wpAny_loadPart (k _ _ (X _ _ ho)) (_g q))
 ne:=fun h tp dd its n sl X htp=>by
  obtain ⟨d2,cd,sl2,ho⟩:=Fx.ty;cases e:(Value.ref C==Value.ref tp) with
  | false=>rfl | true=>
   have e:=eq_of_beq e;cases e;have:=X _ _ ho;rw [htp] at this;simp at this
 ca:=fun {prog w A E Q s} X p hq=>by
  obtain ⟨h,g,d,t,os⟩:=s;obtain ⟨o,hx,hc⟩:=p;exact z2X X Fx hx hc hq
end PySem
namespace L2
section
variable {X:Cx}{pins:List (Addr×Obj)}{O:St}{H:Hp}{s:Shared}{A:Around}{E:Value->Shared->Prop}{Q:Value->Shared->Prop}{b:Bool}
theorem z9b {x:V} {u t:Value} {tp:Addr} {cs:List V} (I:Inv X pins O H s) (rx:xK x u) (ty:z6l X.K H x t) (ht:H tp=some (.tup cs)) (e:∀ its,yA cs its->W.kitAny X.K t its=some b) (h:∀ tk,Q (.bool b) {s with toks:=tk}): wpAny (model X.prog X.w) A (call (.builtin "isinstance") [u,.ref tp]) Q E s:=by
 obtain ⟨_,its,vi,o,g1,g2,_,n,g3⟩:=(show xn X.prog X.w H s.heap tp (.tup cs) from I.hok tp _ ht);have e:=e its vi;obtain ⟨oc,od,oD,os⟩:=o;cases g2;cases g3;cases ty with
 | non=>cases (show u=Value.none from rx);exact _ba W.kitx_none I.kIn True.intro g1 e (fun z=>nomatch z) h | bl y=>cases (show u=Value.bool y from rx);exact _ba W.kitx_bool I.kIn True.intro g1 e (fun z=>nomatch z) h | int i=>obtain ⟨t,q⟩:=(show ∃ t,u=Value.int i t from rx);cases q;exact _ba W.kitx_int I.kIn True.intro g1 e (fun z=>nomatch z) h | str y=>obtain ⟨t,q⟩:=(show ∃ t,u=Value.str y t from rx);cases q;exact _ba W.kitx_str I.kIn True.intro g1 e (fun z=>nomatch z) h | flt y=>obtain ⟨t,q⟩:=(show ∃ t,u=Value.float y t from rx);cases q;exact _ba W.kitx_float I.kIn True.intro g1 e (fun z=>nomatch z) h | @lst a xs ea=>
  cases (show u=Value.ref a from rx);obtain ⟨_,_,n,_,h1⟩:=(show xn X.prog X.w H s.heap a (.lst xs) from I.hok a _ ea);exact _ba W.kitx_list I.kIn ⟨_,h1,rfl⟩ g1 e (fun z=>nomatch z) h | @frz a ob xs ea=>
  cases (show u=Value.ref a from rx);obtain ⟨_,_,_,n,_,h1⟩:=(show xn X.prog X.w H s.heap a (.frz ob (.lst xs)) from I.hok a _ ea);exact _ba W.kitx_list I.kIn ⟨_,h1,rfl⟩ g1 e (fun z=>nomatch z) h | @tup a xs ea=>
  cases (show u=Value.ref a from rx);obtain ⟨_,_,_,p⟩:=(show xn X.prog X.w H s.heap a (.tup xs) from I.hok a _ ea);obtain ⟨o,h1,h2,_⟩:=p;exact _ba W.kitx_tuple I.kIn ⟨o,h1,h2⟩ g1 e (fun z=>nomatch z) h | @dK a kvs ea=>
  cases (show u=Value.ref a from rx);obtain ⟨_,_,vs,_,p⟩:=(show xn X.prog X.w H s.heap a (.dK kvs) from I.hok a _ ea);obtain ⟨o,es,ep,h1,h2,_⟩:=p;exact _ba W.kitx_dict I.kIn ⟨o,h1,h2.1⟩ g1 e (fun z=>nomatch z) h | @dT a kvs ea=>
  cases (show u=Value.ref a from rx);obtain ⟨_,_,xs,_,o,es,ep,h1,h2,_⟩:=(show xn X.prog X.w H s.heap a (.dT kvs) from I.hok a _ ea);exact _ba W.kitx_dict I.kIn ⟨o,h1,h2.1⟩ g1 e (fun z=>nomatch z) h | @ins a C dx fs ea cl ha hn htk hm=>
  cases (show u=Value.ref a from rx);obtain ⟨mA,Oo,_⟩:=zaj I.hok ea;obtain ⟨od,J,_⟩:=Oo.look;exact _ba (W.kitx_own (cl.get _) cl.hd ha hn htk hm) I.kIn J g1 e (fun z=>nomatch z) h
end
theorem z5X{X:Cx}:xD X (.builtin "isinstance") (fun xs H Q=>∃ x t tp T U b,xs=[x,.ref tp]/\H tp=some (.tup [.ty T,.ty U])/\z6l X.K H x t/\W.kitAny X.K t [.type T,.type U]=some b/\Q (.bl b) H):=by
 intro pins s O H xs us Q I r h;obtain ⟨x,t,tp,T,U,b,rfl,htp,ht,hk,q⟩:=h;obtain ⟨u,v,rfl,ru,rv⟩:=vals2 r;cases rv;refine z9b I ru ht htp (fun its vi=>?_) fun tk=>⟨.bl b,H,I.tok _,rfl,q⟩;obtain ⟨u1,u2,rfl,r1,r2⟩:=vals2 vi;cases r1;cases r2;exact hk
end L2
namespace Dd
open L2
section
variable {X:Cx}{E:XK}{e a b c tg:Expr}{es:List Expr}{pos:Pos}{CX:CXT}
theorem ze6{K:W.Frag}{t T U:String}(h:t∈["NoneType","bool","int","str","tuple","list","dict"])(hT:T∈["int","bool","str","tuple","list"])(hU:U∈["int","bool","str","tuple","list"]):W.kitAny K (.type t) [.type T,.type U]=some (isT T t||isT U t):=by
 simp only [W.kitAny,z7d h T hT,z7d h U hU];cases isT T t<;>cases isT U t<;>rfl
def zfB(T U:String):D->Sto->R D:=fun d s=>match tyD d with | some t=>.ok (.bl (isT T t||isT U t)) s | none=>.no
def zfA(T U:String)(f:FE):FE:=fun Z s=>(f Z s).bind fun d s1=>zfB T U d s1
theorem ziw{p p1 p2 pt:Pos}{k:Nat}{T U:String}{tn un:Str}{f:FE}(hT:T∈["int","bool","str","tuple","list"])(hU:U∈["int","bool","str","tuple","list"])(hv:bootBuiltins tn=some (.type T))(hv2:bootBuiltins un=some (.type U))(hg:Gl X "isinstance")(hm:X.mg "isinstance"=none)(hg1:Gl X tn)(hm1:X.mg tn=none)(hg2:Gl X un)(hm2:X.mg un=none)(he:RE X E e f) (hn:tn≠"__name__":=by decide)(hd:(tn==("__debug__":Str))=false:=by decide)(hn2:un≠"__name__":=by decide)(hd2:(un==("__debug__":Str))=false:=by decide) (hs:starEach [e,.Tuple [.Name tn p1,.Name un p2] k pt] X.env=(false,eval e X.env)::starEach [.Tuple [.Name tn p1,.Name un p2] k pt] X.env:=by rfl)(hpl:(backTo pos (starEach [.Tuple [.Name tn p1,.Name un p2] k pt] X.env)).any (·.1)=false:=by rfl): RE X E (.Call (.Name "isinstance" p) [e,.Tuple [.Name tn p1,.Name un p2] k pt] [] pos) (zfA T U f):= zN (z07 z5X hg hm (by decide +kernel) (xM he (xM (zd4 (xM (z4e hg1 hm1 hv (show xK (.ty T) (.type T) from rfl) hn hd) (xM (z4e hg2 hm2 hv2 (show xK (.ty U) (.type U) from rfl) hn2 hd2) jc (zr ..)) (zr ..))) jc (z7L ..)) hs) (by decide) (by decide) hs hpl) fun O H Q ⟨Y,Z,s,r,en,h⟩=>by
  refine ya (k:=fun Z d s1=>zfB T U d s1) r en h _ fun v H1 Y1 s1 d r1 en1 dn stp h1=>?_;unfold zfB at h1;split at h1
  ·rename_i t et;refine ⟨(show (2:Nat)<=sizeLine from by decide +kernel),fun tp htp=>?_⟩;have st2:=wl.lay (o:=.tup [.ty T,.ty U]) r1 htp (by intro _ z;cases z);obtain ⟨q1,q2⟩:=zdo st2.rep (dn.mono st2) et;exact ⟨v,.type t,tp,T,U,isT T t||isT U t,rfl,yn,q1,ze6 q2 hT hU,h1 _ _ _ st2 xJ⟩
  ·exact h1.elim
end
end Dd
namespace L2
open MeetsSeq MeetsSeq2 SeqAt
def zhc(k:Bool):Value->Bool
 | .bool b=>b==k | _=>false
theorem z4t:∀ {bs:List Bool}{its:List Value},yA (bs.map V.bl) its->its=bs.map Value.bool
 | [],_,.nil=>rfl | b::bs,_,.cons r rs=>by
  cases r;rw [z4t rs];rfl
theorem zdv:∀ (bs:List Bool)(k:Bool)(m:Nat)(hm:m<bs.length),m<bs.idxOf k->(bs[m]==k)=false
 | [],k,m,hm,_=>absurd hm (by simp) | b::bs,k,m,hm,h=>by
  rw [List.idxOf_cons] at h;cases e:b==k with
  | true=>rw [e] at h;simp at h | false=>
   rw [e] at h;cases m with
   | zero=>simpa using e | succ m=>simpa using zdv bs k m (by simpa using hm) (by simpa using h)
section
variable {X:Cx}
def zi8:V->List V->Hp->VK->Prop:=fun x vs H Q=>∃ (p:Addr)(bs:List Bool)(k:Bool),x=.ref p/\vs=[.bl k]/\Rd H p (.lst (bs.map V.bl))/\Q (.int (bs.count k:Nat)) H
theorem z7c:MtR X "list.count" zi8:=by
 intro pins s O H x vs v us Q I rx rv h;obtain ⟨p,bs,k,rfl,rfl,hp,q⟩:=h;cases rx;obtain ⟨u,rfl,ru⟩:=vals1 rv;cases ru;obtain ⟨_,its,n,r,e1⟩:=hp.ok I.hok;cases z4t r;refine _a3 PySem.F.slot_list_count ⟨_,e1,rfl⟩ PySem.F.entry_list_count (PySem.F.args_list_count_2 _ _) (list_countAt p _ n _ _ (.bool k) (zhc k)) ⟨e1,fun y hy=>?_,?_⟩
 ·obtain ⟨b,_,rfl⟩:=_ap.mp (_cP.mp hy);exact EqAt.bool_bool b k
 ·have e:(List.map Value.bool bs).countP (zhc k)=bs.count k:=by rw [List.countP_map];rfl
  refine ⟨.int (bs.count k:Nat),H,I.kept (fun b o e=>e),⟨s.toks,?_⟩,q⟩;rw [<- e]
def zim:V->List V->Hp->VK->Prop:=fun x vs H Q=>∃ (p:Addr)(bs:List Bool)(k:Bool),x=.ref p/\vs=[.bl k]/\Rd H p (.lst (bs.map V.bl))/\k∈bs/\bs.length<2 ^ 62/\Q (.int (bs.idxOf k:Nat)) H
theorem z6N:MtR X "list.index" zim:=by
 intro pins s O H x vs v us Q I rx rv h;obtain ⟨p,bs,k,rfl,rfl,hp,hk,hl,q⟩:=h;cases rx;obtain ⟨u,rfl,ru⟩:=vals1 rv;cases ru;obtain ⟨_,its,n,r,e1⟩:=hp.ok I.hok;cases z4t r;have hj:bs.idxOf k<bs.length:=List.idxOf_lt_length_iff.mpr hk;refine _a3 PySem.F.slot_list_index ⟨_,e1,rfl⟩ PySem.F.entry_list_index (PySem.F.args_list_index_2 _ _) (list_indexAt p _ n _ _ (.bool k) (zhc k) (bs.idxOf k) (by simpa using hj) (by omega) ?_ ?_) ⟨e1,fun y hy=>?_,?_⟩
 ·have:=_cj hj;simp [zhc,this]
 ·intro m hm hlt;have hm':m<bs.length:=by simpa using hm
  have:=zdv bs k m hm' hlt;simpa [zhc] using this
 ·obtain ⟨b,_,rfl⟩:=_ap.mp (_cP.mp hy);exact EqAt.bool_bool b k
 ·exact ⟨.int (bs.idxOf k:Nat),H,I.kept (fun b o e=>e),⟨s.toks,rfl⟩,q⟩
end
end L2
namespace Dd
open L2
section
variable {X:Cx}{E:XK}{o e:Expr}{pos:Pos}
def zeV(fo fv:FE):FE:=fun Z s=>(fo Z s).bind fun o s1=>match o with
 | .lst ds=>(fv Z s1).bind fun d s2=>match bools ds,d with
  | some ns,.bl k=>.ok (.int (ns.count k:Nat)) s2 | _,_=>.no
 | _=>.no
theorem zbl{apos:Pos}{fo fv:FE}(ho:RE X E o fo)(hv:RE X E e fv)(hbase:attributeBase o "count" X.env (eval o X.env)=eval o X.env:=by rfl) (hfew:((backTo pos (starEach [e] X.env)).all (fun x=>!x.1)&&(backToKw pos (keywordEach [] X.env)).all (fun x=>x.1.isSome) && decide ([e].length+([]:List Keyword).length+(if ([]:List Keyword).isEmpty then 0 else 1)<30))=true:=by rfl) (hline:(apos.endLine==pos.line)=true:=by rfl)(hs:starEach [e] X.env=(false,eval e X.env)::starEach [] X.env:=by rfl)(hplain:(backTo pos (starEach [] X.env)).any (·.1)=false:=by rfl): RE X E (.Call (.Attribute o "count" apos) [e] [] pos) (zeV fo fv):= zN (zfe _bx PySem.F.slot_list_count PySem.F.type_list_count z7c ho (xM hv jc hs) hbase hfew hline hs hplain) fun O H Q ⟨Y,Z,s,r,en,h⟩=>by
  unfold zeV at h;refine ⟨Y,Z,s,r,en,(okR.bind (Dn:=Den (gm X)) h).imp fun ov H1 ⟨Y1,s1,od,stp,dn,h1⟩=>?_⟩;cases od with
  | lst ds=>
   simp only at h1;have hty:tyV X.K "list" ov H1:=by
    simp only [Den] at dn;obtain ⟨a,ob,vs,rfl,e1,_⟩:=dn;exact .inl ⟨rfl,vs,.inl (.inr ⟨ob,e1⟩)⟩
   refine ⟨hty,⟨Y1,Z,s1,stp.rep,en.mono stp,(okR.bind (Dn:=Den (gm X)) h1).imp fun v H2 ⟨Y2,s2,d,stp2,dn2,h2⟩=>?_⟩⟩;split at h2
   ·rename_i ns k ei;cases qI dn2;have dov:=dn.mono stp2;simp only [Den] at dov;obtain ⟨a,ob,vs,rfl,e1,e2⟩:=dov;rw [z1q ei] at e2;cases z1o e2;exact ⟨a,ns,k,rfl,rfl,.inr ⟨ob,e1⟩,h2.here stp2.rep yL⟩
   ·exact h2.elim | _=>exact h1.elim
def zeM(fo fv:FE):FE:=fun Z s=>(fo Z s).bind fun o s1=>match o with
 | .lst ds=>(fv Z s1).bind fun d s2=>match bools ds,d with
  | some ns,.bl k=>if k∈ns/\ns.length<2 ^ 62 then .ok (.int (ns.idxOf k:Nat)) s2 else .no | _,_=>.no
 | _=>.no
theorem zch{apos:Pos}{fo fv:FE}(ho:RE X E o fo)(hv:RE X E e fv)(hbase:attributeBase o "index" X.env (eval o X.env)=eval o X.env:=by rfl) (hfew:((backTo pos (starEach [e] X.env)).all (fun x=>!x.1)&&(backToKw pos (keywordEach [] X.env)).all (fun x=>x.1.isSome) && decide ([e].length+([]:List Keyword).length+(if ([]:List Keyword).isEmpty then 0 else 1)<30))=true:=by rfl) (hline:(apos.endLine==pos.line)=true:=by rfl)(hs:starEach [e] X.env=(false,eval e X.env)::starEach [] X.env:=by rfl)(hplain:(backTo pos (starEach [] X.env)).any (·.1)=false:=by rfl): RE X E (.Call (.Attribute o "index" apos) [e] [] pos) (zeM fo fv):= zN (zfe _bx PySem.F.slot_list_index PySem.F.type_list_index z6N ho (xM hv jc hs) hbase hfew hline hs hplain) fun O H Q ⟨Y,Z,s,r,en,h⟩=>by
  unfold zeM at h;refine ⟨Y,Z,s,r,en,(okR.bind (Dn:=Den (gm X)) h).imp fun ov H1 ⟨Y1,s1,od,stp,dn,h1⟩=>?_⟩;cases od with
  | lst ds=>
   simp only at h1;have hty:tyV X.K "list" ov H1:=by
    simp only [Den] at dn;obtain ⟨a,ob,vs,rfl,e1,_⟩:=dn;exact .inl ⟨rfl,vs,.inl (.inr ⟨ob,e1⟩)⟩
   refine ⟨hty,⟨Y1,Z,s1,stp.rep,en.mono stp,(okR.bind (Dn:=Den (gm X)) h1).imp fun v H2 ⟨Y2,s2,d,stp2,dn2,h2⟩=>?_⟩⟩;split at h2
   ·rename_i ns k ei;split at h2
    ·rename_i hk;cases qI dn2;have dov:=dn.mono stp2;simp only [Den] at dov;obtain ⟨a,ob,vs,rfl,e1,e2⟩:=dov;rw [z1q ei] at e2;cases z1o e2;exact ⟨a,ns,k,rfl,rfl,.inr ⟨ob,e1⟩,hk.1,hk.2,h2.here stp2.rep yL⟩
    ·exact h2.elim
   ·exact h2.elim | _=>exact h1.elim
end
end Dd
namespace L2
structure uJ(k:Nat)(A:Around):Prop where
 dp:A.depth+3*k+5<recursionLimit
 un:A.units+16*k+200<cLine
 gd:A.guards=some []
theorem z0k.h{k:Nat}{A:Around}(r:z0k k A):uJ k A:=⟨r.dp,r.un,r.gd⟩
theorem uJ.mono{j k:Nat}{A:Around}(r:uJ k A)(h:j<=k):uJ j A:=⟨by have:=r.dp;omega,by have:=r.un;omega,r.gd⟩
theorem uJ.deeper{k:Nat}{A:Around}(r:uJ (k+1) A)(env:Env):uJ k (A.deeper env):= ⟨by have:=r.dp;show A.depth+1+3*k+5<_;omega,by have:=r.un;show A.units+3+16*k+200<_;omega,r.gd⟩
theorem uJ.depth{k:Nat}{A:Around}(r:uJ k A):A.depth<recursionLimit:=by have:=r.dp;omega
theorem uJ.units{k:Nat}{A:Around}(r:uJ k A):A.units+64<cLine:=by have:=r.un;omega
structure zaG(P:Program)(w:World)(K:W.Frag)(mg:Str->Option Value)(base:Heap)(CX:CXT)(k:Nat)(f:Addr)(fd:FuncData)(ps:List Str)(sp:Sp):Prop where
 len:∀ vs H Q E,sp vs H Q E->vs.length=ps.length
 run:∀ (A:Around)(outer:List Env)(s:Shared)(H:Hp)(args:Args)(us:List Value)(vs:List V)(Q:VK)(E:XK),uJ k A->zgo P w K mg base A outer s H->BindsTo s fd args (ps.zip us)->yA vs us->sp vs H Q E-> codeAny (model P w) A (.call (.ref f) args) (CR CX outer P w H s Q E) s
theorem zfE {CX:CXT} {P:Program} {w:World} {K:W.Frag} {mg:Str->Option Value} {base:Heap} {k:Nat} {f:Addr} {name qual:Str} {params:Arguments} {body:List Stmt} {scope:Scope} {dV kV doc pm cdv ct oc:Value} {an od:Option Addr} {osl:Array (Option Value)} {N ps:List Str} {sp:Sp} (lk:K.lookup f=some ⟨oc,od,.func (W.fnOf name qual params body scope dV kV doc pm an cdv ct),osl⟩) (hcd:W.codeIn K cdv qual=true) (S:zt N ps scope) (len:∀ vs H Q E,sp vs H Q E->vs.length=ps.length) (hbody:∀ (A:Around) (outer:List Env) (s:Shared) (H:Hp) (vs:List V) (Q:VK) (E:XK),uJ k (A.deeper (envOfC qual scope s.heap.objs.size f cdv))->sp vs H Q E-> ∃ t,PSs (z0F CX P w K mg base N qual scope f cdv A outer s H E) body t/\t {nx:=fun _ H'=>Q .non H',rt:=Q} (start N vs) H): zaG P w K mg base CX (k+1) f (W.fnOf name qual params body scope dV kV doc pm an cdv ct) ps sp:=by
 refine ⟨len,fun A outer s H args us vs Q E hr e0 hb r hsp=>?_⟩;have hl:=len _ _ _ _ hsp;have KX:K.In s.heap:=e0.mod.kin.keeps fun b o e=>(e0.bs b o e).1;have lim:s.heap.NoLimit:=e0.mod.nolimit.keeps fun b o e=>(e0.bs b o e).1;have hkind:∀ y∈ps.zip us,scope.names.lookup y.1=some .local\/(scope.names.lookup y.1=some .cell/\((cellsFrom (s.heap.objs.size+1) scope.names []).lookup y.1).isSome=true):=fun ⟨n,v⟩ hy=>by
  rcases S.par n (_bs hy).1 with q | q;·exact .inl q
  ·exact .inr ⟨q,_cF _ _ _ (.inl q)⟩
 refine codeAny_call_function hr.depth (KX _ _ lk) rfl S.co S.gen rfl (W.codeRec_of KX hcd) (hb _ _ _ _ ?_);refine wpAny_newFunctionEnv_cells S.kind hkind fun env he s1 x=>?_;subst he;refine ⟨lim.keeps x.toInCall.keep,codeAny_func ?_⟩;obtain ⟨t,ht,hq⟩:=hbody A outer s H vs Q E (hr.deeper _) hsp;have I:Inv (z0F CX P w K mg base N qual scope f cdv A outer s H E) [] (start N vs) H s1:=z5y S e0 hl r x;refine _x (ht [] s1 (start N vs) H _ I hq) (fun fl s' hs=>?_) fun e s' hs=>hs;have fin:∀ {O':St} {H':Hp} {v:V} {u:Value},Inv (z0F CX P w K mg base N qual scope f cdv A outer s H E) [] O' H' s'->xK v u->Q v H'->CE outer P w H s Q u s':= fun {O' H' v u} J rv q=>⟨v,H',J.os,J.bare,J.base,J.hok,rv,q⟩;cases fl with
 | ret u=>
  obtain ⟨v,O',H',J,rv,q⟩:=hs;exact fin J rv q | next=>
  obtain ⟨O',H',J,q⟩:=hs;exact fin (v:=V.non) (u:=Value.none) J rfl q | brk=>
  obtain ⟨_,_,_,q⟩:=hs;exact False.elim q | cont=>
  obtain ⟨_,_,_,q⟩:=hs;exact False.elim q
section
variable {X:Cx}{CX:CXT}{k:Nat}{f:Addr}{fd:FuncData}{ps:List Str}{sp:Sp}{ds:List Value}{dvs:List V}{E:XK}{x:Str}{p pos:Pos}{e:Expr}{es:List Expr}{t:TA}
theorem zee{pins:List (Addr×Obj)}{O:St}{H:Hp}{s:Shared}{Q:VK}{us:List Value}{vs:List V}(F:zaG X.prog X.w X.K X.mg X.base CX k f fd ps sp)(hr:uJ k X.A)(hb:Binds X.K fd ps ds)(hd:yA dvs ds)(hx:Passes CX X E) (I:Inv X pins O H s)(r:yA vs us)(h:sp (vs++dvs) H Q E):wpAny (model X.prog X.w) X.A (call (.ref f) us) (EP X pins O Q) X.xe s:=by
 have r2:yA (vs++dvs) (us++ds):=r.append hd;have hl:(us++ds).length=ps.length:=by rw [<- r2.length];exact F.len _ _ _ _ h
 refine wpAny_call (_cW (F.run X.A X.stack s H ⟨us,[]⟩ (us++ds) (vs++dvs) Q E hr I.env0 (hb s us I.kIn hl) r2 h) fun r s' hq=>?_);cases r with
 | error e=>exact hx pins O H s e s' I hq | ok fl=> cases fl with
  | ret u=>exact I.after hq | next=>exact False.elim hq | brk=>exact False.elim hq | cont=>exact False.elim hq
theorem zbu (F:zaG X.prog X.w X.K X.mg X.base CX k f fd ps sp) (hr:uJ k X.A) (hg:Gl X x) (hm:X.mg x=some (.ref f)) (hk:W.keepIn X.K (.ref f)=true) (hb:Binds X.K fd ps ds) (hd:yA dvs ds) (hx:Passes CX X E) (ha:PA X (e::es) t) (hdb:(x==("__debug__":Str))=false:=by decide) (he:starEach (e::es) X.env=(false,eval e X.env)::starEach es X.env:=by rfl) (hpl:(backTo pos (starEach es X.env)).any (·.1)=false:=by rfl): PE X (.Call (.Name x p) (e::es) [] pos) (ze9 sp dvs E t):=by
 intro pins s O H Q I h;refine _ar (z0r I hg hm ?_ hdb);refine W.callWith_K (h₀:=X.base) I.ok.mod.kin hk (thn (ha pos pins s O H _ I h) fun us s1 ⟨vs,H1,I1,r,q⟩=>⟨I1.kIn,?_⟩) he hpl;exact zee F hr hb hd hx I1 r q
end
section
variable {P:Program}{w:World}{K:W.Frag}{mg:Str->Option Value}{base:Heap}
theorem Fun.okH{x qual:Str}{st:Stmt}{f:Addr}{fd:FuncData}{N ps:List Str}{k:Nat}{sp:Sp}(F:Fun K x qual st f fd)(S:zt N ps (zg st))(len:∀ vs H Q E,sp vs H Q E->vs.length=ps.length) (hbody:∀ (cdv:Value)(A:Around)(outer:List Env)(s:Shared)(H:Hp)(vs:List V)(Q:VK)(E:XK),uJ k (A.deeper (envOfC qual (zg st) s.heap.objs.size f cdv))->sp vs H Q E-> ∃ t,PSs (z0F CX0 P w K mg base N qual (zg st) f cdv A outer s H E).nox (wY st) t/\t {nx:=fun _ H'=>Q .non H',rt:=Q} (start N vs) H):zaG P w K mg base CX0 (k+1) f fd ps sp:=by
 obtain ⟨oc,od,kV,doc,pm,an,cdv,ct,osl,rfl,lk,hcd⟩:=F.ex;refine zfE lk hcd S len fun A outer s H vs Q E hr hsp=>?_;obtain ⟨t,h,q⟩:=hbody cdv A outer s H vs Q E hr hsp;exact ⟨t,h.nox,q⟩
end
end L2
namespace Dd
open L2
def zhG(P:Program)(w:World)(K:W.Frag)(mg:Str->Option Value)(base:Heap)(CX:CXT)(x:Str)(n:Nat)(M:Mir):Prop:= ∃ f fd ps,zaG P w K mg base CX n f fd ps (zcZ ⟨mg,K⟩ M)/\Binds K fd ps []/\W.keepIn K (.ref f)=true/\mg x=some (.ref f)
section
variable {X:Cx}{E:XK}{e:Expr}{es:List Expr}{pos:Pos}{CX:CXT}
theorem zfc {x:Str} {p:Pos} {n:Nat} {M:Mir} {f:FA} (F:zhG X.prog X.w X.K X.mg X.base CX x n M) (hr:uJ n X.A) (hx:Passes CX X E) (hg:Gl X x) (ha:RA X E (e::es) f) (hdb:(x==("__debug__":Str))=false:=by decide) (he:starEach (e::es) X.env=(false,eval e X.env)::starEach es X.env:=by rfl) (hpl:(backTo pos (starEach es X.env)).any (·.1)=false:=by rfl):RE X E (.Call (.Name x p) (e::es) [] pos) (ze M f):=by
 obtain ⟨fa,fd,ps,F,hb,hk,hm⟩:=F;refine zN (zbu F hr hg hm hk hb .nil hx ha hdb he hpl) fun O H Q ⟨Y,Z,s,r,en,h⟩=>?_;refine um (k:=fun Z xs s1=>M xs s1) r en h _ fun vs H2 Y2 s2 ds r2 en2 dn2 stp2 h3=>?_;rw [_a8];exact ⟨Y2,s2,ds,r2,dn2,h3⟩
end
section
variable {P:Program}{w:World}{K:W.Frag}{mg:Str->Option Value}{base:Heap}
theorem zeA{x qual:Str}{st:Stmt}{f:Addr}{fd:FuncData}{N ps:List Str}{k n:Nat}{fs:FS}(F:Fun K x qual st f fd)(hm:mg x=some (.ref f))(hb:Binds K fd ps [])(S:zt N ps (zg st))(hn:ps.length=n) (body:∀ (cdv:Value)(A:Around)(outer:List Env)(s:Shared)(H:Hp)(E:XK),uJ k (A.deeper (envOfC qual (zg st) s.heap.objs.size f cdv))-> RSs (z0F CX0 P w K mg base N qual (zg st) f cdv A outer s H E).nox E0 (wY st) fs):zhG P w K mg base CX0 x (k+1) (Mof N n fs):=by
 subst hn;refine ⟨f,fd,ps,F.okH S (fun vs H Q E h=>?_) (fun cdv A outer s H vs Q E hr h=>?_),hb,F.kp,hm⟩
 ·obtain ⟨Y,s,ds,_,dn,h⟩:=h;unfold Mof at h;split at h;·rename_i e;rw [dn.length];exact e
  ·exact h.elim
 ·obtain ⟨Y,st0,ds,r,dn,h⟩:=h;refine ⟨_,body cdv A outer s H E hr,Y,zq N ds,st0,r,jD dn,?_⟩;unfold Mof at h;split at h
  ·split at h
   ·rename_i d s' e;rw [e];intro fv H' Y' stp fd;cases fv with
    | rt v=>exact h v H' Y' stp fd | _=>exact (show False from fd).elim
   ·rename_i Z s' e;rw [e];intro fv H' Y' stp fd;cases fv with
    | nx v=>exact h .non H' Y' stp (by simp [Den]) | _=>exact (show False from fd).elim
   ·exact h.elim
  ·exact h.elim
end
theorem z0V{X:Cx}:xD X (.builtin "isinstance") (fun xs H Q=>∃ (a C:Addr)(y:V)(b:Bool),xs=[.ref a,y]/\H a=some (zbV C a)/\PySem.ExcCls X.K C/\(∀ c,xK y c->W.kitOne X.K (.ref C) c=some b)/\Q (.bl b) H):=by
 intro pins s O H xs us Q I r h;obtain ⟨a,C,y,b,rfl,ha,hc,hk,q⟩:=h;obtain ⟨u,v,rfl,ru,rv⟩:=vals2 r;cases ru;obtain ⟨⟨o,vs,h1,h2,_⟩,_⟩:=(show xn X.prog X.w H s.heap a (zbV C a) from I.hok a _ ha);exact _aZ (PySem.zbP hc) I.kIn ⟨o,h1,h2⟩ (hk v rv) (fun z=>nomatch z) fun tk=>⟨.bl b,H,I.tok _,rfl,q⟩
structure z5h(mg:Gm)(rs cs:List Str):Prop where
 cls:∀ c∈rs,∀ C,mg.m c=some (.ref C)->PySem.ExcCls mg.K C
 has:∀ d∈cs,∃ D,mg.m d=some (.ref D)
 one:∀ c∈rs,∀ d∈cs,∀ C D,mg.m c=some (.ref C)->mg.m d=some (.ref D)->W.kitOne mg.K (.ref C) (.ref D)=some (c==d)
 val:∀ c∈rs,∀ C,mg.m c=some (.ref C)->W.kitOne mg.K (.ref C) (.type "ValueError")=some true
def zij(rs:List Str)(T:Str):D->Sto->R D
 | .exc c,s=>if c∈rs then .ok (.bl (c==T)) s else .no | _,_=>.no
def z4R(rs:List Str)(T:Str)(f:FE):FE:=fun Z s=>(f Z s).bind fun d s1=>zij rs T d s1
def zik(rs:List Str):D->Sto->R D
 | .exc c,s=>if c∈rs then .ok (.bl true) s else .no | _,_=>.no
def zjp(rs:List Str)(f:FE):FE:=fun Z s=>(f Z s).bind fun d s1=>zik rs d s1
section
variable {X:Cx}{E:XK}{e:Expr}{pos:Pos}
theorem jq{p p2:Pos}{T:Str}{rs cs:List Str}{f:FE}(FM:z5h (gm X) rs cs)(hT:T∈cs)(hg:Gl X "isinstance")(hm:X.mg "isinstance"=none)(hg2:Gl X T)(he:RE X E e f) (hd:(T==("__debug__":Str))=false:=by decide) (hs:starEach [e,.Name T p2] X.env=(false,eval e X.env)::starEach [.Name T p2] X.env:=by rfl)(hpl:(backTo pos (starEach [.Name T p2] X.env)).any (·.1)=false:=by rfl):RE X E (.Call (.Name "isinstance" p) [e,.Name T p2] [] pos) (z4R rs T f):=by
 obtain ⟨D,hD⟩:=FM.has T hT;exact zN (z07 z0V hg hm (by decide +kernel) (xM he (xM (z28 hg2 hD (show xK (.ref D) (.ref D) from rfl) hd) jc (zr ..)) hs) (by decide) (by decide) hs hpl) fun O H Q ⟨Y,Z,s,r,en,h⟩=>by
  refine ya (k:=fun Z d s1=>zij rs T d s1) r en h _ fun v H1 Y1 s1 d r1 en1 dn stp h1=>?_;unfold zij at h1;split at h1
  ·rename_i c;split at h1
   ·rename_i hc;simp only [Den] at dn;obtain ⟨a,C,rfl,hC,hH⟩:=dn;exact ⟨a,C,.ref D,c==T,rfl,hH,FM.cls c hc C hC,fun z hz=>by cases hz;exact FM.one c hc T hT C D hC hD,okR.here (b:=V.bl (c==T)) h1 r1 xJ⟩
   ·exact h1.elim
  ·exact h1.elim
theorem zhX{p p2:Pos}{rs cs:List Str}{f:FE}(FM:z5h (gm X) rs cs)(hg:Gl X "isinstance")(hm:X.mg "isinstance"=none)(hg2:Gl X "ValueError")(hm2:X.mg "ValueError"=none)(he:RE X E e f) (hs:starEach [e,.Name "ValueError" p2] X.env=(false,eval e X.env)::starEach [.Name "ValueError" p2] X.env:=by rfl)(hpl:(backTo pos (starEach [.Name "ValueError" p2] X.env)).any (·.1)=false:=by rfl):RE X E (.Call (.Name "isinstance" p) [e,.Name "ValueError" p2] [] pos) (zjp rs f):= zN (z07 z0V hg hm (by decide +kernel) (xM he (xM (z4e hg2 hm2 (by decide +kernel) (show xK (.ty "ValueError") (.type "ValueError") from rfl)) jc (zr ..)) hs) (by decide) (by decide) hs hpl) fun O H Q ⟨Y,Z,s,r,en,h⟩=>by
  refine ya (k:=fun Z d s1=>zik rs d s1) r en h _ fun v H1 Y1 s1 d r1 en1 dn stp h1=>?_;unfold zik at h1;split at h1
  ·rename_i c;split at h1
   ·rename_i hc;simp only [Den] at dn;obtain ⟨a,C,rfl,hC,hH⟩:=dn;exact ⟨a,C,.ty "ValueError",true,rfl,hH,FM.cls c hc C hC,fun z hz=>by cases hz;exact FM.val c hc C hC,okR.here (b:=V.bl true) h1 r1 xJ⟩
   ·exact h1.elim
  ·exact h1.elim
end
end Dd
namespace PySem
open PySem.AutoSeq1 (wpAny_loadPart')
open MeetsSeq MeetsSeq2 SeqAt
theorem z57 (l:Addr) (items:Array Value) (n:Nat) (dd:Option Addr) (sl:Array (Option Value)) (x:Int) (u:Tok) (h2:2<=x) (hx:x<2 ^ 63) (hne:items.isEmpty=false) (hc:¬ (items.size:Int)*x > (2 ^ 63-1) / 8) (ht:Builtin.Tuple.tupleTooMany ((items.size:Int)*x)=false) (hs:((List.replicate x.toNat items).foldl (· ++ ·) #[]).size<=sizeLine): Meets (Builtin.«tuple.__mul__» ⟨[.ref l,.int x u],[]⟩) (fun A R s=>s.heap.get? l=some {cls:=.type "tuple",dict:=dd,data:=.seq items n,slots:=sl}/\R (.ok (.ret (.ref s.heap.objs.size))) {s with heap:=s.heap.push {cls:=.type "tuple",data:=.seq ((List.replicate x.toNat items).foldl (· ++ ·) #[])}}):= .of_wp fun prog w A R s h=>by
  obtain ⟨hp,g,d,tk,os⟩:=s;obtain ⟨hl,h⟩:=h;have e1:(x==1)=false:=by simp;omega
  have e2:decide (x<=0)=false:=by simp;omega
  have e3:decide (x < -(2 ^ 63))=false:=by simp;omega
  have e4:decide (x ≥ 2 ^ 63)=false:=by simp;omega
  wp_walk using _X hl;rw [_o (by simp;omega)];wp_walk using _X hl;rw [_o hc];wp_walk;exact ⟨_,rfl,h⟩
theorem z3S(l:Addr)(items:Array Value)(n:Nat)(dd:Option Addr)(sl:Array (Option Value))(u:Tok): Meets (Builtin.«tuple.__mul__» ⟨[.ref l,.int 1 u],[]⟩) (fun A R s=>s.heap.get? l=some {cls:=.type "tuple",dict:=dd,data:=.seq items n,slots:=sl}/\R (.ok (.ret (.ref l))) s):= .of_wp fun prog w A R s h=>by
  obtain ⟨hp,g,d,tk,os⟩:=s;obtain ⟨hl,h⟩:=h;wp_walk using _X hl;exact ⟨_,rfl,h⟩
theorem qL:fillsNumberSlot (.type "tuple") "mul"=pure false:= fillsNumberSlot_seq (id:="tuple.__mul__") (r:=some (.builtin "tuple.__rmul__")) _bQ.lookup (by decide +kernel) F.slot_tuple_rmul.lookup (by decide +kernel)
theorem z0R:seqRepeat? (.type "tuple")=pure (some (.builtin "tuple.__mul__")):=by
 unfold seqRepeat?;rw [seqSlot_of (T:="tuple") (name:="__mul__") (id:="tuple.__mul__") _bQ.lookup (by decide +kernel),seqSlot_of (T:="tuple") (name:="__rmul__") (id:="tuple.__rmul__") F.slot_tuple_rmul.lookup (by decide +kernel)];rfl
theorem uy(a:Int)(t:Tok)(l:Addr)(items:Array Value)(n:Nat)(dd:Option Addr)(sl:Array (Option Value)): Meets (Builtin.«int.__rmul__» ⟨[.int a t,.ref l],[]⟩) (fun _ R s=>s.heap.get? l=some {cls:=.type "tuple",dict:=dd,data:=.seq items n,slots:=sl}/\R (.ok (.ret Value.notImplemented)) s):= .of_wp fun prog w A R s h=>by obtain ⟨hp,g,d,tk,os⟩:=s;obtain ⟨hl,h⟩:=h;wp_walk;exact ⟨_,rfl,h⟩
end PySem
namespace L2
section
variable {X:Cx}
def ziK:R2:=fun x y H Q=>∃ l k xs,x=.ref l/\y=.int k/\H l=some (.tup xs)/\1<=k/\xs≠[]/\xs.length*k.toNat<=sizeLine/\ ((k=1->Q (.ref l) H)/\∀ p,H p=none->Q (.ref p) (upd H p (.tup (List.replicate k.toNat xs).flatten)))
theorem zfs:OpR X (binaryOp .Mult) ziK:=by
 intro pins s O H x y v u Q I rx ry h;obtain ⟨l,k,xs,rfl,rfl,hH,h1,hne,hz,q1,q⟩:=h;cases rx;obtain ⟨t,rfl⟩:=ry;obtain ⟨z,its,r,o,e,c1,d1,n,w1⟩:=(show xn X.prog X.w H s.heap l (.tup xs) from I.hok l _ hH);obtain ⟨cls,dd,data,sl⟩:=o;simp only at c1 d1 w1;subst c1 d1 w1;have hl:xs.length=its.length:=by have:=r.length;omega
 have hp:0<its.length:=by rw [<- hl];exact _b2.mpr hne
 have hk:(k.toNat:Int)=k:=by omega
 have hlen:its.length*k.toNat<=sizeLine:=by rw [<- hl];exact hz
 have hkle:k.toNat<=sizeLine:=_R (Nat.le_mul_of_pos_left _ hp) hlen;have hS:(sizeLine:Nat)<=(2 ^ 63-1) / 8:=by decide
 have hkb:k<2 ^ 63:=by
  have:k.toNat<=(2 ^ 63-1) / 8:=_R hkle hS;omega
 have hm:(its.toArray.size:Int)*k=((its.length*k.toNat:Nat):Int):=by rw [_k,Int.natCast_mul,hk]
 by_cases ho:k=1
 ·subst ho;refine _bi (T:="tuple") (U:="int") (by decide) ⟨_,e,rfl⟩ (fun s'=>_bO s' 1 t) qL F.fills_int_mul _a9 z0R _cI.lookup (_a3 _a9 (_bO s 1 t) _cJ (_ct _ _) (uy 1 t l its.toArray n _ sl) ⟨e,rfl,⟨_,e,rfl⟩,_a3 _bQ ⟨_,e,rfl⟩ F.entry_tuple_mul (F.args_tuple_mul_2 _ _) (z3S l its.toArray n _ sl t) ⟨e,?_⟩⟩);exact ⟨.ref l,H,I,rfl,q1 rfl⟩
 ·have hnew:List.foldl (fun x1 x2=>x1++x2) #[] (List.replicate k.toNat its.toArray)=(List.replicate k.toNat its).flatten.toArray:=by
   have:=foldl_rep its k.toNat [];rw [_ao] at this;exact this
  refine _bi (T:="tuple") (U:="int") (by decide) ⟨_,e,rfl⟩ (fun s'=>_bO s' k t) qL F.fills_int_mul _a9 z0R _cI.lookup (_a3 _a9 (_bO s k t) _cJ (_ct _ _) (uy k t l its.toArray n _ sl) ⟨e,rfl,⟨_,e,rfl⟩,_a3 _bQ ⟨_,e,rfl⟩ F.entry_tuple_mul (F.args_tuple_mul_2 _ _) (z57 l its.toArray n _ sl k t (by omega) hkb (by cases its with | nil=>simp at hp | cons a b=>rfl) (by rw [hm];have:=_R hlen hS;omega) (by rw [hm];unfold Builtin.Tuple.tupleTooMany;exact _ae (by omega)) (by rw [hnew,_k,len_rep,Nat.mul_comm];exact hlen)) ⟨e,?_⟩⟩);rw [hnew];have hlz:(List.replicate k.toNat xs).flatten.length<=sizeLine:=by rw [len_rep,Nat.mul_comm];exact hz
  exact ⟨.ref _,_,I.laid (o:=.tup (List.replicate k.toNat xs).flatten) (t':=s.toks) (fun b u q=>_b _ q) (_j _) ⟨hlz,_,r.rep k.toNat,z9f.new _ _⟩,rfl,q _ I.fresh⟩
end
end L2
namespace Dd
open L2
section
variable {X:Cx}{E:XK}
def z8x:D->D->Sto->R D
 | .tup xs,.int k,s=>if 1<=k/\xs≠[]/\xs.length*k.toNat<=cap then .ok (.tup (List.replicate k.toNat xs).flatten) s else .no | _,_,_=>.no
theorem zhf:∃ r,OpR X (binaryOp .Mult) r/\OpF X E r z8x:=by
 refine ⟨_,zfs,?_⟩;intro H Y s d1 d2 v1 v2 Q r h1 h2 h;unfold z8x at h;split at h
 ·rename_i xs k;cases yd h2;split at h
  ·rename_i hl;have hden:=h1;simp only [Den] at h1;obtain ⟨a,vs,rfl,e1,e2⟩:=h1;refine ⟨a,k,vs,rfl,rfl,e1,hl.1,fun z=>?_,by rw [e2.length];exact qG hl.2.2,fun hk=>?_,z0J r h (e2.flat_rep _)⟩
   ·subst z;have:=e2.length;exact hl.2.1 (_aD.mp (by simpa using this.symm))
   ·subst hk;have e:(List.replicate (1:Int).toNat xs).flatten=xs:=by simp
    rw [e] at h;exact h.here r hden
  ·exact h.elim
 ·exact h.elim
@[simp] theorem ze3 (xs:List D)(k:Int)(s:Sto):z8x (.tup xs) (.int k) s=if 1<=k/\xs≠[]/\xs.length*k.toNat<=cap then .ok (.tup (List.replicate k.toNat xs).flatten) s else .no:=id rfl
end
end Dd
namespace L2
section
variable {X:Cx}{pos:Pos}
theorem Inv.far{pins:List (Addr×Obj)}{O:St}{H:Hp}{s:Shared}(I:Inv X pins O H s):(s.heap.objs.size==sysModules)=false:=by
 obtain ⟨o,es,ep,h,_⟩:=I.mod.glob.keeps I.bk;have h1:(mainGlobals:Nat)<s.heap.objs.size:=_m h;have e1:(1:Nat)<=(mainGlobals:Nat):=by decide
 have h2:(1:Nat)<s.heap.objs.size:=Nat.lt_of_le_of_lt e1 h1;have h3:s.heap.objs.size≠(1:Nat):=_b3 h2;exact beq_false_of_ne h3
def zif:TE:=fun _ H Q=>∀ p,H p=none->Q (.ref p) (upd H p (.dK []))
theorem zez:PE X (.Dict [] [] pos) zif:=by
 intro pins s O H Q I hq;refine wpAny_Dict_empty ?_;refine ⟨.ref s.heap.objs.size,upd H s.heap.objs.size (.dK []),I.laid (o:=.dK []) (t':=s.toks) (fun b u e=>_b _ e) (_j _) ⟨_aj _,I.far,[],?_,Heap.DictOf.new _⟩,rfl,hq _ (I.hok.fresh (_j _))⟩;constructor
end
end L2
namespace Dd
open L2
section
variable {X:Cx}{E:XK}{pos:Pos}
theorem zfM:RE X E (.Dict [] [] pos) (eC .dct):= zN zez fun O H Q ⟨Y,Z,s,r,en,h⟩=>fun p hp=>by
  have stp:=wl.lay (o:=.dK []) r hp (by intro _ z;cases z);exact h _ _ _ stp (by simp only [Den];exact ⟨p,rfl,yn⟩)
end
structure XOk(K:W.Frag)(C:Addr):Prop where
 exc:W.excIn K C bmV "ValueError.__new__"=true
 cls:PySem.ExcCls K C
 val:W.kitOne K (.ref C) (.type "ValueError")=some true
theorem z5F{K:W.Frag}{C:Addr}(h:z2d K C=true):∃ d cd sl,K.lookup C=some ⟨.type "type",d,.cls cd,sl⟩:=by
 unfold z2d at h;split at h
 ·rename_i t d cd sl e;have:=_as.mp h;subst this;exact ⟨_,_,_,e⟩
 ·cases h
theorem vU{K:W.Frag}{x:Str}(h:z3N K x=true):∃ C,W.nsIn K mainGlobals x=some (some (.ref C))/\XOk K C:=by
 unfold z3N at h;split at h
 ·rename_i C e;simp only [_D] at h;obtain ⟨h1,h2,h3,h4,h5,h6,h7,h8⟩:=h;exact ⟨C,e,h1,⟨_as.mp h2,_as.mp h3,_as.mp h4,_as.mp h5,_as.mp h6,z5F h7⟩,_as.mp h8⟩
 ·cases h
section
variable {K:W.Frag}{mg:Str->Option Value}(G:∀ (x:Str)(v:Value),W.nsIn K mainGlobals x=some (some v)->mg x=some v)
include G
theorem z9t{x:Str}(h:z3N K x=true):zfw K mg x:=by
 obtain ⟨C,e,o⟩:=vU h;exact ⟨C,G x _ e,o.exc⟩
theorem z9K{rs cs:List Str}(hr:∀ x∈rs,z3N K x=true)(hc:∀ y∈cs,z3N K y=true)(h:∀ x∈rs,∀ y∈cs,(z3e K x y).map (·.2)=some (some (x==y))):z5h ⟨mg,K⟩ rs cs:=by
 have un:∀ x C D,W.nsIn K mainGlobals x=some (some (.ref D))->mg x=some (.ref C)->C=D:=fun x C D e m=>by
  have:=G x _ e;rw [m] at this;cases this;rfl
 refine ⟨fun c hcm C m=>?_,fun d hd=>?_,fun c hcm d hd C D mC mD=>?_,fun c hcm C m=>?_⟩
 ·obtain ⟨D,e,o⟩:=vU (hr c hcm);cases un c C D e m;exact o.cls
 ·obtain ⟨D,e,o⟩:=vU (hc d hd);exact ⟨D,G d _ e⟩
 ·obtain ⟨C',e1,_⟩:=vU (hr c hcm);obtain ⟨D',e2,_⟩:=vU (hc d hd);cases un c C C' e1 mC;cases un d D D' e2 mD;have q:=h c hcm d hd;unfold z3e at q;rw [e1,e2] at q;simpa using q
 ·obtain ⟨D,e,o⟩:=vU (hr c hcm);cases un c C D e m;exact o.val
theorem zfh{x y:Str}(hx:z3N K x=true)(hy:z3N K y=true)(h:(z3e K x y).map (·.1)=some (some true)):zhF K mg x y:=by
 obtain ⟨C,e1,o1⟩:=vU hx;obtain ⟨D,e2,o2⟩:=vU hy;refine ⟨C,D,G x _ e1,G y _ e2,o1.exc,o2.exc,fun h₀ X=>?_⟩;unfold z3e at h;rw [e1,e2] at h;have hm:W.mroIn K C (.ref D)=some true:=by simpa using h
 obtain ⟨bm,N,nm,q,bs,hdct,sn,sub,ab,col,dd,k0,k1,k2,k3,k5,mN,hC,_⟩:=zaY X o1.exc;refine ⟨bm,N,nm,q,bs,hdct,sn,sub,ab,col,dd,k0,k1,k2,k3,k5,hC,?_⟩;obtain ⟨d',cd',sl',hl⟩:=o1.cls.ty;have h2:=X _ _ hl;rw [hC] at h2;unfold W.mroIn W.clsIn at hm;rw [hl] at hm;simp only [_G] at hm;split at hm;·cases hm
 ·unfold excClassObj at h2;simp only [_p,Obj.mk.injEq,Data.cls.injEq] at h2;obtain ⟨_,_,h3,_⟩:=h2;have h4:cd'.mro=Value.ref C::bm:=by rw [<- h3]
  rw [h4] at hm;simpa using hm
end
theorem z8y{q:Ask}{w:World}{K:W.Frag}(e:z8K q K=valS q w)(x:Str)(hx:x∈q.xs):z3N K x=true:=z2u (_am (fun z=>z.2.2.2.2.2.1) e) x hx
theorem zhu{q:Ask}{w:World}{K:W.Frag}(e:z8K q K=valS q w)(x y:Str)(b:Bool)(hx:((x,y),b)∈q.ps):z3e K x y=some (some b,some b):=z2u (_am (fun z=>z.2.2.2.2.2.2) e) ((x,y),b) hx
theorem ziL{k:Nat}{A:Around}{e:Option Value}(r:uJ k A):uJ k (A.mark e):=⟨r.dp,r.un,r.gd⟩
def LeS(f g:FS):Prop:=∀ Z s a s',f Z s=.ok a s'->g Z s=.ok a s'
def LeM(M N:Mir):Prop:=∀ ds s d s',M ds s=.ok d s'->N ds s=.ok d s'
theorem LeS.rfl{f:FS}:LeS f f:=fun _ _ _ _ h=>h
theorem LeS.no{f g:FS}(h:LeS f g):LeS f (ur g):=fun Z s a s' e=>by rw [z0l,h Z s a s' e]
theorem LeS.calm{f:FS}:LeS f (ur f):=LeS.rfl.no
theorem LeS.fNo{g:FS}:LeS fNo g:=fun _ _ _ _ h=>by cases h
theorem LeM.mof{N:List Str}{n:Nat}{f g:FS}(h:LeS f g):LeM (Mof N n f) (z1h N n g):=fun ds s d s' e=>by
 unfold Mof at e;unfold z1h;split at e
 ·rename_i hl;rw [_d hl];split at e
  ·rename_i d' s1 e1;rw [h _ _ _ _ e1];exact e
  ·rename_i Z s1 e1;rw [h _ _ _ _ e1];exact e
  ·cases e
 ·cases e
def LeE(f g:FE):Prop:=∀ Z s a s',f Z s=.ok a s'->g Z s=.ok a s'
theorem z1r{α β:Type}{r:R α}{k:α->Sto->R β}{b:β}{s':Sto}(h:r.bind k=.ok b s'):∃ a s1,r=.ok a s1/\k a s1=.ok b s':=by cases r with
 | ok a s=>exact ⟨a,s,Eq.refl _,h⟩ | ex c s=>cases h | no=>cases h
theorem LeS.seq{f f' g g':FS}(h:LeS f f')(h2:LeS g g'):LeS (zy f g) (zy f' g'):=fun Z s a s' e=>by
 obtain ⟨fl,s1,e1,e2⟩:=z1r e;show (f' Z s).bind _=_;rw [h _ _ _ _ e1,Rb];cases fl with
 | nx Z'=>exact h2 _ _ _ _ e2 | _=>exact e2
theorem LeS.drop{f f':FE}(h:LeE f f'):LeS (vm f) (vm f'):=fun Z s a s' e=>by
 obtain ⟨d,s1,e1,e2⟩:=z1r e;show (f' Z s).bind _=_;rw [h _ _ _ _ e1,Rb];exact e2
theorem LeE.call{M M':Mir}{f:FA}(h:LeM M M'):LeE (ze M f) (ze M' f):=fun Z s a s' e=>by
 obtain ⟨d,s1,e1,e2⟩:=z1r e;show (f Z s).bind _=_;rw [e1,Rb];exact h _ _ _ _ e2
theorem LeS.if_{t:FT}{f f' g g':FS}(h:LeS f f')(h2:LeS g g'):LeS (fIf t f g) (fIf t f' g'):=fun Z s a s' e=>by
 obtain ⟨d,s1,e1,e2⟩:=z1r e;show (t Z s).bind _=_;rw [e1,Rb];cases d with
 | true=>exact h _ _ _ _ e2 | false=>exact h2 _ _ _ _ e2
theorem LeM.ok{M N:Mir}(h:LeM M N){ds:List D}{s s':Sto}{d:D}(e:M ds s=.ok d s'):N ds s=.ok d s':=h ds s d s' e
end Dd
namespace PySem
end PySem
namespace L2
end L2
namespace Dd
open L2
open PySem.W
def kev{α:Type}(n:Nat)(lt:Nat->Nat->Bool):KasT α->Option α
 | .ret a=>some a | .ask i j k=>if i<n/\j<n then kev n lt (k (lt i j)) else none
theorem zaS{α:Type}{n:Nat}{lt:Nat->Nat->Bool}{cmp:Nat->Nat->(Bool->Shared->Prop)->Shared->Prop}{Q:α->Shared->Prop}{s:Shared}(hc:∀ i j C,i<n->j<n->C (lt i j) s->cmp i j C s): ∀ (t:KasT α)(a:α),kev n lt t=some a->Q a s->t.kasWp cmp Q s
 | .ret a,b,e,h=>by
  simp only [kev,_p] at e;subst e;exact h | .ask i j k,b,e,h=>by
  unfold kev at e;split at e
  ·rename_i hij;exact hc i j _ hij.1 hij.2 (zaS hc (k (lt i j)) b e h)
  ·cases e
def lexLt(p q:Int×Int):Bool:=if p.1=q.1 then (if p.2=q.2 then false else decide (p.2<q.2)) else decide (p.1<q.1)
def z89(h:Heap)(v:Value)(p:Int×Int):Prop:=∃ a o n t u,v=.ref a/\h.get? a=some o/\o.cls=.type "tuple"/\o.data=.seq #[.int p.1 t,.int p.2 u] n
inductive xC (h:Heap):List Value->List (Int×Int)->Prop | nil:xC h [] [] | cons {v p vs ps}:z89 h v p->xC h vs ps->xC h (v::vs) (p::ps)
theorem xC.length{h:Heap}:∀ {vs ps},xC h vs ps->vs.length=ps.length
 | _,_,.nil=>rfl | _,_,.cons _ r=>by simp [r.length]
theorem xC.at_{h:Heap}:∀ {vs ps},xC h vs ps->∀ i,i<ps.length->z89 h (vs.getD i .none) (ps.getD i (0,0))
 | _,_,.nil,i,hi=>by simp at hi | _,_,.cons p r,0,_=>by simpa using p | _,_,.cons p r,i+1,hi=>by simpa using r.at_ i (by simpa using hi)
theorem xC.mono{h h':Heap}(k:∀ b o,h.get? b=some o->h'.get? b=some o):∀ {vs ps},xC h vs ps->xC h' vs ps
 | _,_,.nil=>.nil | _,_,.cons ⟨a,o,n,t,u,e,g,c,d⟩ r=>.cons ⟨a,o,n,t,u,e,k _ _ g,c,d⟩ (r.mono k)
theorem xC.tups{h:Heap}:∀ {vs ps},xC h vs ps->∃ fs,KatTups h vs fs/\fs.length=ps.length/\∀ v∈fs,∃ i t,v=.int i t
 | _,_,.nil=>⟨[],KatTups.nil,rfl,fun v hv=>by cases hv⟩ | _,_,.cons (p:=p) ⟨a,o,n,t,u,e,g,c,d⟩ r=>by
  obtain ⟨fs,k,l,m⟩:=r.tups;subst e;refine ⟨.int p.1 t::fs,KatTups.cons g c d rfl k,by simp [l],fun v hv=>?_⟩;rcases _r.mp hv with rfl | hv;·exact ⟨_,_,rfl⟩
  ·exact m v hv
section
variable {prog:Program}{w:World}{A:Around}{E:Value->Shared->Prop}{s:Shared}
theorem zed{v u:Value}{p q:Int×Int}{C:Bool->Shared->Prop}(hv:z89 s.heap v p)(hu:z89 s.heap u q)(h:C (lexLt p q) s):wpAny (model prog w) A (keyLt' (tuples' true) v u) C E s:=by
 obtain ⟨a,o,n,t,t',rfl,g,c,d⟩:=hv;obtain ⟨b,o',n',x,x',rfl,g',c',d'⟩:=hu;refine kat_lt g d g' d' (kat_cons (_bL (kat_go (fun e=>kat_yes (kat_cons (_bL (kat_go (fun e2=>kat_yes (kat_nil ?_)) fun e2=>kat_no ?_)))) fun e=>kat_no ?_)))
 ·have e1:p.1=q.1:=by simpa using e
  have e3:p.2=q.2:=by simpa using e2
  simpa [lexLt,e1,e3] using h
 ·have e1:p.1=q.1:=by simpa using e
  have e3:¬ p.2=q.2:=by simpa using e2
  refine kat_one _ _ (PyProof.Rows.lt_int ?_);show C _ s;simpa [lexLt,e1,e3] using h
 ·have e1:¬ p.1=q.1:=by simpa using e
  have hb:(true&&((0:Nat)==0))=true:=rfl;rw [hb];refine oneLt_int ?_;simpa [lexLt,e1] using h
theorem z8O{vs:List Value}{ps:List (Int×Int)}{Q:SortKind->Shared->Prop}(hp:xC s.heap vs ps)(h0:0<ps.length)(h:Q (tuples' true) s):wpAny (model prog w) A (keyKind' vs.toArray) Q E s:=by
 obtain ⟨fs,k,l,m⟩:=hp.tups;refine kat_kind (T:=.type "int") k (by rw [l];exact h0) (fun v hv=>?_) rfl h;obtain ⟨i,t,rfl⟩:=m v hv;exact Looks.of_pure rfl
def z5c(vs:List Value)(p:Array Nat):Array Value:=List.toArray (p.toList.map fun i=>vs.getD i Value.none)
theorem z6e {a:Addr} {vs:List Value} {ps:List (Int×Int)} {n:Nat} {p:Array Nat} {P:PySem.Fin->Shared->Prop} (ho:s.heap.get? a=some (seqObj "list" vs.toArray n)) (hp:∀ h',(∀ b o,b≠a->s.heap.get? b=some o->h'.get? b=some o)->xC h' vs ps) (h2:2<=vs.length) (h64:vs.length<64) (he:kev ps.length (fun i j=>lexLt (ps.getD i (0,0)) (ps.getD j (0,0))) (kas_sort ps.length)=some p) (h:P (.done (.ret .none)) {s with heap:=sortedHeap s.heap a vs (z5c vs p)}):wpAny (model prog w) A (Builtin.«list.sort» ⟨[.ref a],[]⟩) P E s:=by
 have ha:a<s.heap.objs.size:=_m ho;have hline:vs.length<=sizeLine:=by rw [_au];omega
 have lenP:vs.length=ps.length:=(hp s.heap fun _ _ _ e=>e).length;obtain ⟨e1,g1⟩:∃ e1,(s.heap.update a (Obj.mapSeq fun _=>(#[]:Array Value))).get? a=some (seqObj "list" #[] e1):=⟨_,get?_update_seq ho fun _=>#[]⟩;have g2:(((s.heap.update a (Obj.mapSeq fun _=>(#[]:Array Value))).push (seqObj "tuple" vs.toArray 0)).push (seqObj "list" #[] 0)).get? a=some (seqObj "list" #[] e1):=_b _ (_b _ g1);have hp1:xC (((s.heap.update a (Obj.mapSeq fun _=>(#[]:Array Value))).push (seqObj "tuple" vs.toArray 0)).push (seqObj "list" #[] 0)) vs ps:=hp _ fun b o hb e=> _b _ (_b _ (((_bl s.heap a (Obj.mapSeq fun _=>(#[]:Array Value))).2 b hb).trans e));rw [list_sort_plain];refine _a (_cZ ho rfl (_a (_bS ho rfl (_a (seqEpoch_at g1 rfl (_a (_ci (_a (_br (_at ?_) (_aj _))) hline)))) (by rw [_k];exact hline) (_aj _))));have big:¬ vs.toArray.size<2:=by rw [_k];omega
 dsimp only;rw [_o big,_o big];refine _a (z8O (s:={s with heap:=((s.heap.update a (Obj.mapSeq fun _=>(#[]:Array Value))).push (seqObj "tuple" vs.toArray 0)).push (seqObj "list" #[] 0)}) hp1 (by omega) ?_);refine _a (_x (kat_run (ks:=vs) (vs:=vs) (G:=fun q s'=>q=p/\s'={s with heap:=((s.heap.update a (Obj.mapSeq fun _=>(#[]:Array Value))).push (seqObj "tuple" vs.toArray 0)).push (seqObj "list" #[] 0)}) (Q:=fun st' s'=>∃ q:Array Nat,q.size=vs.length/\arrOf st'=q.map (kas_item (vs.toArray.zip vs.toArray))/\failedOf st'=none/\q=p/\s'={s with heap:=((s.heap.update a (Obj.mapSeq fun _=>(#[]:Array Value))).push (seqObj "tuple" vs.toArray 0)).push (seqObj "list" #[] 0)}) rfl h2 h64 (fun q st' s' a1 a2 a3 a4=>⟨q,a1,a2,a3,a4⟩) (zaS (n:=ps.length) (fun i j C hi hj hC=>?_) _ p (by rw [lenP];exact he) ⟨rfl,rfl⟩)) ?_ fun _ _ z=>z);·exact zed (hp1.at_ i hi) (hp1.at_ j hj) hC
 rintro ⟨⟨⟩,st'⟩ s' ⟨q,hq,har,hf,rfl,rfl⟩;dsimp only;have out:=kat_snds (ks:=vs) (vs:=vs) rfl har;rw [out,hf];refine _a (seqEpoch_at g2 rfl (_a (_bS g2 rfl ?_ (_aj _) (by rw [_k,_J,_aY,hq];exact Nat.le_succ_of_le hline))));simp only [bne_self_eq_false,Bool.false_eq_true,_bq];exact _g h
theorem z9q {l:Addr} {vs:List Value} {ps:List (Int×Int)} {p:Array Nat} {Q:Value->Shared->Prop} (hl:s.heap.IsList l vs.toArray) (hp:xC s.heap vs ps) (h2:2<=vs.length) (h64:vs.length<64) (he:kev ps.length (fun i j=>lexLt (ps.getD i (0,0)) (ps.getD j (0,0))) (kas_sort ps.length)=some p) (h:Q (.ref (s.heap.objs.size+1)) {s with heap:=sortedAll s.heap vs (z5c vs p)}): wpAny (model prog w) A (call (.builtin "sorted") [.ref l]) Q E s:=by
 have hline:vs.length<=sizeLine:=by rw [_au];omega
 refine _bk kind_sorted plain_sorted entry_sorted (args_sorted1 _) ?_;unfold Builtin.«sorted»;refine _a (m:=checkCount "sorted" 1 1 _) (_g (_a (collect_list hl (_a (_br ?_ (by rw [_au];omega))) (by rw [_au];omega))));have sz:((s.heap.push (seqObj "list" #[] 0)).update s.heap.objs.size (Obj.mapSeq (· ++ vs.toArray))).objs.size=s.heap.objs.size+1:=by rw [_cS,size_push']
 have g:(((s.heap.push (seqObj "list" #[] 0)).update s.heap.objs.size (Obj.mapSeq (· ++ vs.toArray))).push (seqObj "list" vs.toArray 0)).get? (s.heap.objs.size+1)=some (seqObj "list" vs.toArray 0):=by
  rw [<- sz];exact _n _ rfl
 have keep:∀ b o,s.heap.get? b=some o->(((s.heap.push (seqObj "list" #[] 0)).update s.heap.objs.size (Obj.mapSeq (· ++ vs.toArray))).push (seqObj "list" vs.toArray 0)).get? b=some o/\b≠s.heap.objs.size+1:=fun b o q=>by
  have lt:b<s.heap.objs.size:=_m q;refine ⟨?_,_u (_ai lt)⟩;rw [_bH _ _ _ (by rw [sz];exact _u (_ai lt)),Heap.get?_update_ne _ _ _ _ (_u lt),_bH _ _ _ (_u lt)];exact q
 show wpAny (model prog w) _ _ _ _ {s with heap:=((s.heap.push (seqObj "list" #[] 0)).update s.heap.objs.size (Obj.mapSeq (· ++ vs.toArray))).push (seqObj "list" vs.toArray 0)};rw [sz];exact _a (_at (_U slot_list_sort ⟨_,g,rfl⟩ entry_list_sort (z6e g (fun h' k=>hp.mono fun b o q=>k b o (keep b o q).2 (keep b o q).1) h2 h64 he ⟨_,rfl,_g ⟨_,rfl,h⟩⟩) (args_list_sort _)))
end
section
variable {X:Cx}{E:XK}
def z0H:List D->Option (List (Int×Int))
 | []=>some [] | .tup [.int a,.int b]::r=>(z0H r).map fun t=>(a,b)::t | _=>none
def zdM(K:W.Frag):List V->Hp->VK->Prop:=fun xs H Q=>∃ (l:Addr)(ys:List V)(ps:List (Int×Int))(p:Array Nat),xs=[.ref l]/\SqL K H l ys/\ys.length=ps.length/\2<=ys.length/\ys.length<64/\ (∀ i,i<ps.length->∃ a,ys[i]? = some (.ref a)/\SqT K H a [.int (ps.getD i (0,0)).1,.int (ps.getD i (0,0)).2])/\ kev ps.length (fun i j=>lexLt (ps.getD i (0,0)) (ps.getD j (0,0))) (kas_sort ps.length)=some p/\(∀ i∈p.toList,i<ys.length)/\p.toList.length=ys.length/\∀ r,H r=none->Q (.ref r) (upd H r (.lst (p.toList.map fun i=>ys.getD i .non)))
theorem z7x{pins:List (Addr×Obj)}{O:L2.St}{H:Hp}{s:Shared}(I:Inv X pins O H s):∀ {ys:List V}{its:List Value}{ps:List (Int×Int)},yA ys its->ys.length=ps.length-> (∀ i,i<ps.length->∃ a,ys[i]? = some (.ref a)/\SqT X.K H a [.int (ps.getD i (0,0)).1,.int (ps.getD i (0,0)).2])->xC s.heap its ps
 | [],_,[],.nil,_,_=>.nil | [],_,_::_,_,l,_=>by simp at l | _::_,_,[],_,l,_=>by simp at l | y::ys,_,q::ps,.cons r rs,l,h=>by
  refine .cons ?_ (z7x I rs (by simpa using l) fun i hi=>by simpa using h (i+1) (by simpa using hi));obtain ⟨a,e,t⟩:=h 0 (by simp);simp only [_e,_p] at e;subst e;cases r;obtain ⟨its',r',pl,_⟩:=I.tuple t;obtain ⟨o,ho,hc,n,hd⟩:=pl;simp only [List.getD_cons_zero] at r';obtain ⟨u,us,rfl⟩:∃ u us,its'=u::us:=by cases r';exact ⟨_,_,rfl⟩
  cases r' with | cons r1 r2=>
   obtain ⟨t1,rfl⟩:=r1;obtain ⟨t2,rfl,t3,rfl⟩:=vals1 r2;exact ⟨a,o,n,t1,t3,rfl,ho,hc,hd⟩
theorem z5q:∀ {ys:List V}{its:List Value},yA ys its->∀ i,i<ys.length->xK (ys.getD i .non) (its.getD i .none)
 | [],_,.nil,i,hi=>by simp at hi | y::ys,_,.cons r rs,0,_=>by simpa using r | y::ys,_,.cons r rs,i+1,hi=>by simpa using z5q rs i (by simpa using hi)
theorem z3G{ys:List V}{its:List Value}(h:yA ys its):∀ (p:List Nat),(∀ i∈p,i<ys.length)->yA (p.map fun i=>ys.getD i .non) (p.map fun i=>its.getD i .none)
 | [],_=>.nil | i::p,hp=>.cons (z5q h i (hp i (.head _))) (z3G h p fun j hj=>hp j (.tail _ hj))
theorem z5p:xD X (.builtin "sorted") (zdM X.K):=by
 intro pins s O H xs us Q I r h;obtain ⟨l,ys,ps,p,rfl,hq,len,h2,h64,hps,he,hp,hpl,q⟩:=h;obtain ⟨u,rfl,rx⟩:=vals1 r;cases rx;obtain ⟨its,r',pl,hz⟩:=I.list hq;have hlen:=r'.length;refine z9q (ps:=ps) (p:=p) pl.isList (z7x I r' len hps) (by omega) (by omega) he ?_;obtain ⟨c',e⟩:=sortedAll_at s.heap its (z5c its p);refine ⟨.ref (s.heap.objs.size+1),_,I.laid (t':=s.toks) (fun b o z=>sortedAll_old z) (_bz _) (show xn X.prog X.w _ (sortedAll s.heap its (z5c its p)) _ (.lst (p.toList.map fun i=>ys.getD i .non)) from ⟨?_,_,c',z3G r' p.toList hp,e⟩),rfl,q _ (I.hok.fresh (_bz _))⟩;rw [_J,hpl];exact hz
def z1I:List D->Sto->R D
 | [d],s=>match listOf s d with
  | some xs=>match z0H xs with
   | some ps=>if 2<=xs.length/\xs.length<64 then match kev ps.length (fun i j=>lexLt (ps.getD i (0,0)) (ps.getD j (0,0))) (kas_sort ps.length) with
     | some p=>if p.toList.all (fun i=>decide (i<xs.length))=true/\p.toList.length=xs.length then .ok (.lst (p.toList.map fun i=>xs.getD i .non)) s else .no | none=>.no else .no | none=>.no
  | none=>.no
 | _,_=>.no
theorem z1J{mg:Gm}{H:Hp}{Y:List Addr}:∀ {xs:List D}{ps:List (Int×Int)}{vs:List V},z0H xs=some ps->zA mg H Y xs vs->xs.length=ps.length/\ ∀ i,i<ps.length->∃ a,vs[i]? = some (.ref a)/\SqT mg.K H a [.int (ps.getD i (0,0)).1,.int (ps.getD i (0,0)).2]
 | [],ps,vs,e,h=>by
  simp only [z0H,_p] at e;subst e;exact ⟨rfl,fun i hi=>by simp at hi⟩ | x::xs,ps,vs,e,h=>by
  unfold z0H at e;split at e;·simp at *
  ·rename_i a b r z;cases z;cases q:z0H xs with
   | none=>rw [q] at e;simp at e | some t=>
    rw [q] at e;simp only [_T,_p] at e;subst e;simp only [zA] at h;obtain ⟨v,ws,rfl,h1,h2⟩:=h;obtain ⟨l,k⟩:=z1J q h2;refine ⟨by simp [l],fun i hi=>?_⟩;cases i with
    | zero=>
     obtain ⟨c,us,rfl,q1,q2⟩:=uh (K:=mg.K) h1;obtain ⟨v1,v2,rfl,d1,d2⟩:=z4U q2;cases yd d1;cases yd d2;exact ⟨c,rfl,q1⟩ | succ i=>simpa using k i (by simpa using hi)
  ·cases e
theorem z6i{mg:Gm}{H:Hp}{Y:List Addr}:∀ {xs:List D}{vs:List V},zA mg H Y xs vs->∀ i,i<xs.length->Den mg H Y (xs.getD i .non) (vs.getD i .non)
 | [],_,_,i,hi=>by simp at hi | x::xs,vs,h,i,hi=>by
  simp only [zA] at h;obtain ⟨v,ws,rfl,h1,h2⟩:=h;cases i with
  | zero=>simpa using h1 | succ i=>simpa using z6i h2 i (by simpa using hi)
theorem z4p{mg:Gm}{H:Hp}{Y:List Addr}{xs:List D}{vs:List V}(h:zA mg H Y xs vs):∀ (p:List Nat),(∀ i∈p,i<xs.length)->zA mg H Y (p.map fun i=>xs.getD i .non) (p.map fun i=>vs.getD i .non)
 | [],_=>by simp [zA] | i::p,hp=>by
  simp only [_w,zA];exact ⟨_,_,rfl,z6i h i (hp i (.head _)),z4p h p fun j hj=>hp j (.tail _ hj)⟩
theorem zbv:∃ r,xD X (.builtin "sorted") r/\z04 X E r z1I:=⟨_,z5p.freeze,fun H Y s ds vs Q r hd h=>by
 unfold z1I at h;split at h
 ·split at h
  ·rename_i d xs e;split at h
   ·rename_i ps eps;split at h
    ·rename_i h2;split at h
     ·rename_i p ep;split at h
      ·rename_i hp;obtain ⟨v,rfl,dn⟩:=z0a hd;obtain ⟨a,ws,rfl,q1,q2⟩:=zM r e dn;obtain ⟨l,k⟩:=z1J eps q2;have hl:=q2.length;have hin:∀ i∈p.toList,i<xs.length:=fun i hi=>by simpa using _L.mp hp.1 i hi
       exact ⟨a,ws,ps,p,rfl,.inl q1,by omega,by omega,by omega,k,ep,fun i hi=>by have:=hin i hi;omega,by rw [hp.2];omega,uA r h (z4p q2 _ hin)⟩
      ·exact h.elim
     ·exact h.elim
    ·exact h.elim
   ·exact h.elim
  ·exact h.elim
 ·exact h.elim⟩
end
end Dd
namespace L2
section
variable {X:Cx}{v1 v2 e:Expr}{t1 t2 te:TE}{k1 k2:Str}{apos cpos dpos p1 p2:Pos}{j1 j2:Nat}
theorem zaW(hk:k1≠k2)(h1:PE X v1 t1)(h2:PE X v2 t2)(he:PE X e te) (hbase:attributeBase (.Dict [some (.Constant (.str k1) j1 p1),some (.Constant (.str k2) j2 p2)] [v1,v2] dpos) "get" X.env (eval (.Dict [some (.Constant (.str k1) j1 p1),some (.Constant (.str k2) j2 p2)] [v1,v2] dpos) X.env) = eval (.Dict [some (.Constant (.str k1) j1 p1),some (.Constant (.str k2) j2 p2)] [v1,v2] dpos) X.env:=by rfl) (hfew:((backTo cpos (starEach [e] X.env)).all (fun x=>!x.1)&&(backToKw cpos (keywordEach [] X.env)).all (fun x=>x.1.isSome) && decide ([e].length+([]:List Keyword).length+(if ([]:List Keyword).isEmpty then 0 else 1)<30))=true:=by rfl) (hline:(apos.endLine==cpos.line)=true:=by rfl)(hs:backTo cpos (starEach [e] X.env)=[(false,eval e X.env)]:=by rfl): PE X (.Call (.Attribute (.Dict [some (.Constant (.str k1) j1 p1),some (.Constant (.str k2) j2 p2)] [v1,v2] dpos) "get" apos) [e] [] cpos) (fun O H Q=>t1 O H fun x1 H1=>t2 O H1 fun x2 H2=>te O H2 fun y H3=>∃ k,y=.str k/\Q (if k=k1 then x1 else if k=k2 then x2 else .non) H3):=by
 intro pins s O H Q I h;refine _bD hbase hfew hline hs (wpAny_Dict_walk (knd:=strKind X.prog X.w) rfl rfl (by simp) (Nat.le_of_ble_eq_true rfl) ?_);have far:=I.far;have I0:Inv X pins O H {s with heap:=s.heap.push {cls:=.type "dict",data:=.dict #[]}}:=I.kept (t':=s.toks) fun b u z=>_b _ z;have fp:∀ b∈[s.heap.objs.size],z2z X pins H b:=fun b hb=>by
  cases _a5.mp hb;exact I.fpOk (_j _) (I.hok.fresh (_j _))
 have g0:(s.heap.push {cls:=.type "dict",data:=.dict #[]}).get? s.heap.objs.size=some {cls:=.type "dict",data:=.dict #[]}:=_n _ rfl;have I1:=I0.pinned fp fun b hb=>by
  cases _a5.mp hb;exact ⟨_,g0,by intro v z;cases z⟩
 have d0:(s.heap.push {cls:=.type "dict",data:=.dict #[]}).DictOf (strKind X.prog X.w) s.heap.objs.size []:=Heap.DictOf.new _;refine pairTrees_cons_walk (_b8 (thn (h1 _ _ O H _ (I1.tok _) h) fun u1 s1 ⟨x1,H1,I2,r1,q1⟩=>?_));refine pairTrees_cons_walk (_b8 (thn (h2 _ _ O H1 _ (I2.tok _) q1) fun u2 s2 ⟨x2,H2,I3,r2,q2⟩=>pairTrees_nil_walk ?_));have pin:=I3.pin _ (_z _ (_z _ (vA (.head _) g0)));refine ⟨[(k1,u1),(k2,u2)],⟨strKind_is _ _ _ _,rfl,strKind_is _ _ _ _,rfl,True.intro⟩,d0.at fun o z=>?_,fun h' dd sb=>?_⟩
 ·rw [g0] at z;cases z;exact pin.1
 have em:merged ([]:List (Str×Value)) [(k1,u1),(k2,u2)]=[(k1,u1),(k2,u2)]:=by simp [merged,stored,hk]
 rw [em] at dd;obtain ⟨f0,f1,f2,f3,f4,f5⟩:=fp _ (.head _);have I4:Inv X pins O H2 {s2 with heap:=h',toks:=s2.toks+2}:=I3.unpinned.turned (it:=s.heap.objs.size) (fun b o hb z=>(sb.2 b hb).trans z) pin.2.1 pin.2.2.1 f3 f4 f5;obtain ⟨od,es,ep,ho,hx,hd,_⟩:=dd;have fp2:∀ b∈[s.heap.objs.size],z2z X pins H2 b:=fun b hb=>by
  cases _a5.mp hb;exact ⟨pin.2.1,f1,f2,f3,f4,f5⟩
 have I5:=I4.pinned fp2 fun b hb=>by
  cases _a5.mp hb;exact ⟨_,ho,by intro v z;rw [hd] at z;cases z⟩
 have dd:h'.DictOf (strKind X.prog X.w) s.heap.objs.size [(k1,u1),(k2,u2)]:=⟨od,es,ep,ho,hx,hd,by assumption⟩;refine ⟨"dict","dict.get",PySem.F.plainAttrs_dict,PySem.F.slot_dict_get,PySem.F.type_dict_get,Heap.DictOf.typeIs (s:={s2 with heap:=h',toks:=s2.toks+2}) dd,fun a z=>?_,?_⟩
 ·cases z;exact ⟨od,ho,hx.2.1⟩
 refine _bE rfl (_bd (Calls.spliced_cons (thn (he _ _ O H2 _ I5 q2) fun u3 s3 ⟨y,H3,I6,r3,k,ey,q3⟩=>Calls.spliced_nil ?_)));subst ey;obtain ⟨t,rfl⟩:=r3;have pin2:=I6.pin _ (_z _ (_z _ (vA (.head _) ho)));have dd3:s3.heap.DictOf (strKind X.prog X.w) s.heap.objs.size [(k1,u1),(k2,u2)]:=dd.at fun o z=>by
  have z':h'.get? s.heap.objs.size=some o:=z;rw [ho] at z';cases z';exact pin2.1
 refine call_meetsIn PySem.F.slot_dict_get dd3.typeIs PySem.F.entry_dict_get (PySem.F.args_dict_get_2 _ _) (meets_dict_get (strKind X.prog X.w) s.heap.objs.size (strKind_is _ _ k t) far) ⟨_,dd3.mapOf,_,H3,I6.unpinned.tok _,?_,q3⟩;by_cases c1:k=k1
 ·subst c1;simpa [valueAt] using r1
 ·by_cases c2:k=k2
  ·subst c2;simpa [valueAt,hk,c1] using r2
  ·have e1:¬ k1=k:=fun z=>c1 z.symm;have e2:¬ k2=k:=fun z=>c2 z.symm;simp only [valueAt,List.find?,e1,e2,c1,c2,_b6,_bq,Option.map_none,_cH];rfl
end
open PySem.Builtin.Str
section
variable {X:Cx}{o e:Expr}{to te:TE}{apos cpos pos:Pos}
theorem zbU(ho:PE X o to)(hbase:attributeBase o "upper" X.env (eval o X.env)=eval o X.env:=by rfl)(hline:(apos.endLine==cpos.line)=true:=by rfl): PE X (.Call (.Attribute o "upper" apos) [] [] cpos) (fun O H Q=>to O H fun x H1=>∃ z,x=.str z/\tooLong (Txt.upper z).length=false/\Q (.str (Txt.upper z)) H1):=by
 intro pins s O H Q I h;refine Call_method0 hbase hline (thn (ho pins s O H _ I h) fun v s1 ⟨x,H1,I1,r1,z,ez,hz,q⟩=>?_);subst ez;obtain ⟨t,rfl⟩:=r1;exact SB.upper hz ⟨.str (Txt.upper z),H1,I1.tok _,⟨_,rfl⟩,q⟩
def zk2:V->Option Int->Option Int->Hp->VK->Prop:=fun x lo hi H Q=>∃ z i,x=.str z/\lo=some i/\hi=none/\z.length<=sizeLine/\Q (.str (Txt.slice z (some i) none)) H
theorem zhz:SlR X zk2:=by
 intro pins s O H x v vl vu lo hi sl Q I rx hs pl pu h;obtain ⟨z,i,rfl,rfl,rfl,hz,q⟩:=h;obtain ⟨t,rfl⟩:=rx;obtain ⟨ob,ho,hc,hd⟩:=hs;cases pl with | int i ti=> cases pu with | none=>
   refine ⟨"str",_,PySem.F.slot_str_getitem.lookup,typeIs_str _ _ _,wpAny_getItem_str_slice (l:=some (i,ti)) (u:=none) (st:=none) ⟨ob,ho,hc,hd⟩ rfl (post_val_or_str ⟨_R (Txt.slice_le z _ _) hz,fun t' k=>?_⟩)⟩;exact ⟨.str (Txt.slice z (some i) none),H,I.tok _,⟨_,rfl⟩,q⟩
end
end L2
namespace Dd
open L2 PySem.Builtin.Str
section
variable {X:Cx}{E:XK}{o e v1 v2:Expr}{apos cpos dpos p1 p2 pos:Pos}{k1 k2:Str}{j1 j2:Nat}
theorem z7e{mg:Gm}{H:Hp}{Y:List Addr}{z:Str}:Den mg H Y (.str z) (.str z):=by simp [Den]
def zdy(f:FE):FE:=fun Z s=>(f Z s).bind fun d s1=>match d with
 | .str z=>if tooLong (Txt.upper z).length=false then .ok (.str (Txt.upper z)) s1 else .no | _=>.no
theorem zdV{f:FE}(ho:RE X E o f)(hbase:attributeBase o "upper" X.env (eval o X.env)=eval o X.env:=by rfl)(hline:(apos.endLine==cpos.line)=true:=by rfl): RE X E (.Call (.Attribute o "upper" apos) [] [] cpos) (zdy f):=zN (zbU ho hbase hline) fun O H Q ⟨Y,Z,s,r,en,h⟩=>by
 refine ya (k:=fun Z d s1=>match d with | .str z=>if tooLong (Txt.upper z).length=false then R.ok (D.str (Txt.upper z)) s1 else .no | _=>.no) r en h _ fun v H1 Y1 s1 d r1 en1 dn stp h1=>?_;cases d with
 | str z=>
  cases uR dn;simp only at h1;split at h1
  ·rename_i hz;exact ⟨z,rfl,hz,h1.here r1 z7e⟩
  ·exact h1.elim | _=>exact h1.elim
def zjC(f:FE)(fl:FO):FE:=fun Z s=>(f Z s).bind fun d s1=>(fl Z s1).bind fun lo s2=>match d,lo with
 | .str z,some i=>if z.length<=cap then .ok (.str (Txt.slice z (some i) none)) s2 else .no | _,_=>.no
theorem zbE{lo:Option Expr}{p2:Pos}{fe:FE}{fl:FO}(he:RE X E e fe)(hl:RO X E lo fl):RE X E (.Subscript e (.Slice lo none none p2) pos) (zjC fe fl):= zN (z7O zhz he hl za5) fun O H Q ⟨Y,Z,s,r,en,h⟩=>by
  refine ya (k:=fun Z d s1=>(fl Z s1).bind fun lo s2=>match d,lo with | .str z,some i=>if z.length<=cap then R.ok (D.str (Txt.slice z (some i) none)) s2 else .no | _,_=>.no) r en h _ fun v H1 Y1 s1 d r1 en1 dn stp h1=>?_;refine z6Y (k:=fun Z lo s2=>match d,lo with | .str z,some i=>if z.length<=cap then R.ok (D.str (Txt.slice z (some i) none)) s2 else .no | _,_=>.no) r1 en1 h1 _ fun lo H2 Y2 s2 r2 en2 stp2 h2=>?_;cases d with
  | str z=>
   cases uR dn;cases lo with
   | none=>exact h2.elim | some i=>
    simp only at h2;split at h2
    ·rename_i hz;exact ⟨z,i,rfl,rfl,rfl,qG hz,h2.here r2 z7e⟩
    ·exact h2.elim
  | _=>cases lo<;>exact h2.elim
def zcF:D->D->Sto->R D
 | .str a,.str b,s=>if a.length+b.length<=cap then .ok (.str (a++b)) s else .no | _,_,_=>.no
theorem zcV:∃ r,OpR X (binaryOp .Add) r/\OpF X E r zcF:=by
 refine ⟨_,z8B,?_⟩;intro H Y s d1 d2 v1 v2 Q r h1 h2 h;unfold zcF at h;split at h
 ·rename_i a b;cases uR h1;cases uR h2;split at h
  ·rename_i hl;exact ⟨a,b,rfl,rfl,qG hl,h.here r z7e⟩
  ·exact h.elim
 ·exact h.elim
def zby(k1 k2:Str)(f1 f2 fe:FE):FE:=fun Z s=>(f1 Z s).bind fun x1 s1=>(f2 Z s1).bind fun x2 s2=>(fe Z s2).bind fun y s3=>match y with
 | .str k=>.ok (if k=k1 then x1 else if k=k2 then x2 else .non) s3 | _=>.no
theorem zgU{f1 f2 fe:FE}(hk:k1≠k2)(h1:RE X E v1 f1)(h2:RE X E v2 f2)(he:RE X E e fe) (hbase:attributeBase (.Dict [some (.Constant (.str k1) j1 p1),some (.Constant (.str k2) j2 p2)] [v1,v2] dpos) "get" X.env (eval (.Dict [some (.Constant (.str k1) j1 p1),some (.Constant (.str k2) j2 p2)] [v1,v2] dpos) X.env) = eval (.Dict [some (.Constant (.str k1) j1 p1),some (.Constant (.str k2) j2 p2)] [v1,v2] dpos) X.env:=by rfl) (hfew:((backTo cpos (starEach [e] X.env)).all (fun x=>!x.1)&&(backToKw cpos (keywordEach [] X.env)).all (fun x=>x.1.isSome) && decide ([e].length+([]:List Keyword).length+(if ([]:List Keyword).isEmpty then 0 else 1)<30))=true:=by rfl) (hline:(apos.endLine==cpos.line)=true:=by rfl)(hs:backTo cpos (starEach [e] X.env)=[(false,eval e X.env)]:=by rfl): RE X E (.Call (.Attribute (.Dict [some (.Constant (.str k1) j1 p1),some (.Constant (.str k2) j2 p2)] [v1,v2] dpos) "get" apos) [e] [] cpos) (zby k1 k2 f1 f2 fe):= zN (zaW hk h1 h2 he hbase hfew hline hs) fun O H Q ⟨Y,Z,s,r,en,h⟩=>by
  refine ya (k:=fun Z x1 s1=>(f2 Z s1).bind fun x2 s2=>(fe Z s2).bind fun y s3=>match y with | .str k=>R.ok (if k=k1 then x1 else if k=k2 then x2 else D.non) s3 | _=>.no) r en h _ fun u1 H1 Y1 s1 x1 r1 en1 d1 st1 h1=>?_;refine ya (k:=fun Z x2 s2=>(fe Z s2).bind fun y s3=>match y with | .str k=>R.ok (if k=k1 then x1 else if k=k2 then x2 else D.non) s3 | _=>.no) r1 en1 h1 _ fun u2 H2 Y2 s2 x2 r2 en2 d2 st2 h2=>?_;refine ya (k:=fun Z y s3=>match y with | .str k=>R.ok (if k=k1 then x1 else if k=k2 then x2 else D.non) s3 | _=>.no) r2 en2 h2 _ fun u3 H3 Y3 s3 y r3 en3 d3 st3 h3=>?_;cases y with
  | str k=>
   cases uR d3;refine ⟨k,rfl,h3.here r3 ?_⟩;split;·exact (d1.mono st2).mono st3
   ·split;·exact d2.mono st3
    ·simp [Den] | _=>exact h3.elim
end
end Dd
namespace Dd
open L2
section
variable {X:Cx}{E:XK}{e a b c tg iter elt:Expr}{es:List Expr}{pos:Pos}{CX:CXT}
variable {scope:Scope}{ifs:List Expr}{fi:FI}{fg:FG}{ft:FT}{fe:FE}{g:TG}{spos py:Pos}
theorem zcI(N':List Str)(mp:List (Option Nat))(hc:X.calm=true)(hi:RI X E tg iter fi)(hg:∀ ex s H,PG (zw X N' scope ex s H) tg g)(hgt:z1N (gm X) E mp g fg)(ht:∀ ex s H,z4S (zw X N' scope ex s H) ifs (tT (gm X) E ft))(he:∀ ex s H,RE (zw X N' scope ex s H) E elt fe) (hkd:scope.kind=.function:=by rfl)(hnm:z8q scope.names=true:=by rfl)(hfr:z92 X.env.kindOf scope.names=true:=by rfl)(hmp:z1n X.N scope.names N' mp=true:=by rfl) (hs:∀ x,foldedSetIterable iter X.env x=pure x:=by intro _;rfl):RE X E (.ListComp elt [⟨tg,iter,ifs,0⟩] scope pos) (kL fi mp fg ft fe):= zN (zae (te:=tE (gm X) E fe) N' mp hc hi hg ht (fun ex s H=>he ex s H) hkd (kW hnm) (kD hfr) hmp hs) fun O H Q ⟨Y,Z,s,r,en,h⟩=>by
  refine z09 hgt r en h fun H1 Y1 s1 xs vs r1 en1 dn h1 hcap=>?_;split at h1
  ·rename_i hf;exact z9m r1 h1 hf dn
  ·exact h1.elim
end
section
variable {X:Cx}{E:XK}{es:List Expr}{fa:FE}{fr:FA}
theorem aN{x:Str}{p:Pos}(ha:RE X E (.Name x p) fa)(hr:RA X E es fr):RA X E ((.Name x p)::es) (za fa fr):=qH ha hr (zr ..)
theorem aK{c:Const}{j:Nat}{p:Pos}(ha:RE X E (.Constant c j p) fa)(hr:RA X E es fr):RA X E ((.Constant c j p)::es) (za fa fr):=qH ha hr (z3x ..)
theorem aQ{g:Expr}{xs:List Expr}{ks:List Keyword}{p:Pos}(ha:RE X E (.Call g xs ks p) fa)(hr:RA X E es fr):RA X E ((.Call g xs ks p)::es) (za fa fr):=qH ha hr (vB ..)
theorem aT{xs:List Expr}{k:Nat}{p:Pos}(ha:RE X E (.Tuple xs k p) fa)(hr:RA X E es fr):RA X E ((.Tuple xs k p)::es) (za fa fr):=qH ha hr (z7L ..)
theorem aS{a b:Expr}{p:Pos}(ha:RE X E (.Subscript a b p) fa)(hr:RA X E es fr):RA X E ((.Subscript a b p)::es) (za fa fr):=qH ha hr (qh ..)
theorem aB{a b:Expr}{o:Operator}{p:Pos}(ha:RE X E (.BinOp a o b p) fa)(hr:RA X E es fr):RA X E ((.BinOp a o b p)::es) (za fa fr):=qH ha hr (zbS ..)
theorem aL{xs:List Expr}{p:Pos}(ha:RE X E (.List xs p) fa)(hr:RA X E es fr):RA X E ((.List xs p)::es) (za fa fr):=qH ha hr (zcj ..)
theorem aO{a:Expr}{g:List Comprehension}{sc:Scope}{p:Pos}(ha:RE X E (.ListComp a g sc p) fa)(hr:RA X E es fr):RA X E ((.ListComp a g sc p)::es) (za fa fr):=qH ha hr (yR ..)
theorem aM{a:Expr}{o:List CmpOp}{b:List Expr}{p:Pos}(ha:RE X E (.Compare a o b p) fa)(hr:RA X E es fr):RA X E ((.Compare a o b p)::es) (za fa fr):=qH ha hr (z3L ..)
theorem aU{o:UnaryOp}{a:Expr}{p:Pos}(ha:RE X E (.UnaryOp o a p) fa)(hr:RA X E es fr):RA X E ((.UnaryOp o a p)::es) (za fa fr):=qH ha hr (zeU ..)
theorem yH {e:Expr} {pos:Pos} {CX:CXT} {x:Str} {p:Pos} {n k:Nat} {M:Mir} {f:FA} (F:Has X.prog X.w X.K X.mg X.base CX x n M) (hr:z0k k X.A) (hx:Passes CX X E) (ha:RA X E (e::es) f) (hk:n<=k:=by decide) (hg:Gl X x:=by rfl) (hdb:(x==("__debug__":Str))=false:=by decide) (he:starEach (e::es) X.env=(false,eval e X.env)::starEach es X.env:=by rfl) (hpl:(backTo pos (starEach es X.env)).any (·.1)=false:=by rfl):RE X E (.Call (.Name x p) (e::es) [] pos) (ze M f):=zb4 F (hr.mono hk) hx hg ha hdb he hpl
end
section
variable {q:Ask}{w:World}{K:W.Frag}{h:Heap}{mg:Str->Option Value}
theorem zP(X:K.In h)(G:h.Ns mainGlobals mg)(e:z8K q K=valS q w)(i:Nat){x:Str}{st:Stmt}(hx:q.fs[i]? = some (x,st)):∃ f fd,mg x=some (.ref f)/\Fun K x x st f fd:=let ⟨f,fd,a,F⟩:=ziZ e x st (_y hx);⟨f,fd,W.mg_of X G a,F⟩
theorem vJ(X:K.In h)(G:h.Ns mainGlobals mg)(e:z8K q K=valS q w)(i:Nat){x:Str}(hx:q.bs[i]? = some x):mg x=none:=W.mg_none_of X G (zie e x (_y hx))
theorem zda(X:K.In h)(G:h.Ns mainGlobals mg)(e:z8K q K=valS q w)(i:Nat){x:Str}{c:Int}(hx:q.cs[i]? = some (x,c)):∃ t,mg x=some (.int c t):=let ⟨t,z⟩:=zj8 e x c (_y hx);⟨t,W.mg_of X G z⟩
end
open PySem.W
section
variable {prog:Program}{w:World}{A:Around}{E:Value->Shared->Prop}{s:Shared}
theorem z6t {l:Addr} {vs:List Value} {o:Obj} {n:Nat} {Q:List Value->Shared->Prop} (ho:s.heap.get? l=some o) (hc:o.cls=.type "tuple") (hd:o.data=.seq vs.toArray n) (h:Q vs {s with heap:=(s.heap.push (seqObj "list" #[] 0)).update s.heap.objs.size (Obj.mapSeq (· ++ vs.toArray))}) (hsz:vs.length<=sizeLine):wpAny (model prog w) A (collect (.ref l)) Q E s:=by
 refine _a (wpAny_runValue (codeAny_builtin entry_proto_collect' ?_));refine _a (_br (_g ⟨Code.quiet_builtin _ (by decide +kernel),codeAny_builtin entry_list_iadd' ?_⟩) (_aj _));have ho':=_b (seqObj "list" #[] 0) ho;refine _a (m:=slotArgs "__iadd__" 1 {pos:=[Value.ref s.heap.objs.size,Value.ref l]}) (_g ?_);show wpAny _ _ (Builtin.List.listExtendWith (.ref s.heap.objs.size) (.ref l) (.ref s.heap.objs.size)) _ _ _;unfold Builtin.List.listExtendWith;refine _a (_b4 (v:=.ref l) (T:="tuple") (Exists.intro o ⟨ho',hc⟩) ?_);have ht:(Value.type "tuple"==Value.type "tuple")=true:=rfl;rw [_d (by rw [ht];simp)];refine _a (_cZ ho' hd (_a (_cZ (_n s.1 rfl) rfl ?_)));rw [_o (by simp)];refine _a (_bS (_n s.1 rfl) rfl (_g ?_) (by simp) (by simp;omega));show wpAny _ _ (load s.heap.objs.size >>= _) _ _ _;refine _a (wpAny_load (get?_update_seq (_n s.1 rfl) fun x=>x++vs.toArray) ?_);refine _g ?_;simpa using h
end
end Dd
namespace Dd
open L2
section
variable {X:Cx}{E:XK}{e:Expr}{pos pos':Pos}
def zdn:FS:=fun Z s=>.ok (.bk Z) s
theorem zeB:RS X E (.Break pos) zdn:=vQ zbQ fun D O H ⟨Y,Z,s,r,en,h⟩=>okR.here (b:=FlV.bk O) h r en
def zfK(i:Nat)(f:FE):FS:=fun Z s=>match Z[i]? with
 | some (some (.int a))=>(f Z s).bind fun d s1=>match d with | .int b=>.ok (.nx (Z.set i (some (.int (a+b))))) s1 | _=>.no
 | _=>.no
theorem ziN(i:Nat){x:Str}{f:FE}(hN:X.N.Nodup)(he:RE X E e f)(hi:X.N[i]? = some x:=by rfl)(hx:Loc X.env.scope x:=by first | exact Or.inl rfl | exact Or.inr rfl)(hf:X.fn x=true\/X.env.scope.names.lookup x=some .local:=by first | exact .inl rfl | exact .inr rfl | assumption): RS X E (.AugAssign (.Name x pos') .Add e pos) (zfK i f):= vQ (zhC hN hi hx he zhk hf) fun D O H ⟨Y,Z,s,r,en,h⟩=>by
  unfold zfK at h;split at h
  ·rename_i a ea;obtain ⟨v,h1,h2⟩:=en.at_ i _ ea;cases yd h2;refine ⟨_,h1,?_⟩;refine ya (k:=fun Z d s1=>match d with | .int b=>R.ok (Fl.nx (Z.set i (some (.int (a+b))))) s1 | _=>.no) r en h _ fun v H1 Y1 s1 d r1 en1 dn stp h3=>?_;cases d with
   | int b=>
    cases yd dn;refine ⟨_,_,rfl,rfl,?_⟩;exact okR.here (b:=FlV.nx (O.set i (some (.int (a+b))))) h3 r1 (en1.set (by simp [Den]) i) | _=>exact h3.elim
  ·exact h.elim
@[simp] theorem zgu {i:Nat}{f:FE}{Z:Ev}{s:Sto}{a b:Int}{s1:Sto}(h:Z[i]? = some (some (.int a)))(hf:f Z s=.ok (.int b) s1):zfK i f Z s=.ok (.nx (Z.set i (some (.int (a+b))))) s1:=by simp only [zfK,h,hf,Rb]
end
open PySem.W
theorem z38:∀ {xs ys:List Int},xs.Perm ys->xs.Pairwise (· <= ·)->ys.Pairwise (· <= ·)->xs=ys
 | [],ys,p,_,_=>by rw [List.Perm.nil_eq p] | x::xs,[],p,_,_=>by simp at p | x::xs,y::ys,p,h1,h2=>by
  have hx:x∈y::ys:=p.mem_iff.mp (by simp);have hy:y∈x::xs:=p.mem_iff.mpr (by simp);rw [List.pairwise_cons] at h1 h2;have e:x=y:=by
   rcases _r.mp hx with e | hx;·exact e
   ·rcases _r.mp hy with e | hy;·exact e.symm
    ·have:=h1.1 y hy;have:=h2.1 x hx;omega
  subst e;rw [z38 ((List.perm_cons x).mp p) h1.2 h2.2]
def wC(ns:List Int):List Int:=ns.mergeSort fun a b=>decide (a<=b)
theorem zbD(ns:List Int):(wC ns).Pairwise (· <= ·):=by
 have:=List.pairwise_mergeSort (le:=fun a b:Int=>decide (a<=b)) (by intro a b c;simp;omega) (by intro a b;simp;omega) ns;refine this.imp fun h=>by simpa using h
theorem z3p(ns:List Int):(wC ns).Perm ns:=List.mergeSort_perm ns _
theorem zcG{ns ns':List Int}(p:ns'.Perm ns)(h:ns'.Pairwise (· <= ·)):ns'=wC ns:=z38 (p.trans (z3p ns).symm) h (zbD ns)
section
variable {prog:Program}{w:World}{A:Around}{E:Value->Shared->Prop}{s:Shared}
theorem z8l {l:Addr} {vs:List Value} {ns:List Int} {o:Obj} {n:Nat} {Q:Value->Shared->Prop} (ho:s.heap.get? l=some o) (hc:o.cls=.type "tuple") (hd:o.data=.seq vs.toArray n) (hi:IntsAre vs ns) (h64:vs.length<64) (h:∀ (out:Array Value),IntsAre out.toList (wC ns)->Q (.ref (s.heap.objs.size+1)) {s with heap:=sortedAll s.heap vs out}): wpAny (model prog w) A (call (.builtin "sorted") [.ref l]) Q E s:=by
 have hline:vs.length<=sizeLine:=by rw [_au];omega
 refine _bk kind_sorted plain_sorted entry_sorted (args_sorted1 _) ?_;unfold Builtin.«sorted»;refine _a (m:=checkCount "sorted" 1 1 _) (_g (_a (z6t ho hc hd (_a (_br ?_ (by rw [_au];omega))) (by rw [_au];omega))));have sz:((s.heap.push (seqObj "list" #[] 0)).update s.heap.objs.size (Obj.mapSeq (· ++ vs.toArray))).objs.size=s.heap.objs.size+1:=by rw [_cS,size_push']
 have g:(((s.heap.push (seqObj "list" #[] 0)).update s.heap.objs.size (Obj.mapSeq (· ++ vs.toArray))).push (seqObj "list" vs.toArray 0)).get? (s.heap.objs.size+1)=some (seqObj "list" vs.toArray 0):=by
  rw [<- sz];exact _n _ rfl
 show wpAny (model prog w) _ _ _ _ {s with heap:=((s.heap.push (seqObj "list" #[] 0)).update s.heap.objs.size (Obj.mapSeq (· ++ vs.toArray))).push (seqObj "list" vs.toArray 0)};rw [sz];exact _a (_at (_U slot_list_sort ⟨_,g,rfl⟩ entry_list_sort (list_sort_tree g hi h64 fun out ns' i' p pw=>by
  rw [zcG p pw] at i';exact ⟨_,rfl,_g ⟨_,rfl,h out i'⟩⟩) (args_list_sort _)))
end
section
variable {X:Cx}{E:XK}
theorem z7E:∀ {ns:List Int}{vs:List Value},yA (ns.map V.int) vs->IntsAre vs ns
 | [],_,.nil=>.nil | n::ns,_,.cons ⟨t,e⟩ r=>by subst e;exact .cons _ _ (z7E r)
theorem z88:∀ {ns:List Int}{vs:List Value},IntsAre vs ns->yA (ns.map V.int) vs
 | _,_,.nil=>.nil | _,_,.cons _ _ r=>.cons ⟨_,rfl⟩ (z88 r)
def zfP(K:W.Frag):List V->Hp->VK->Prop:=fun xs H Q=>∃ (l:Addr)(ns:List Int),xs=[.ref l]/\SqT K H l (ns.map V.int)/\ns.length<64/\∀ r,H r=none->Q (.ref r) (upd H r (.lst ((wC ns).map V.int)))
theorem z8Z:xD X (.builtin "sorted") (zfP X.K):=by
 intro pins s O H xs us Q I r h;obtain ⟨l,ns,rfl,hq,h64,q⟩:=h;obtain ⟨u,rfl,rx⟩:=vals1 r;cases rx;obtain ⟨its,r',pl,hz⟩:=I.tuple hq;obtain ⟨o,ho,hc,n,hd⟩:=pl;have hlen:=r'.length;rw [_J] at hlen;refine z8l (ns:=ns) ho hc hd (z7E r') (by omega) fun out io=>?_;obtain ⟨c',e⟩:=sortedAll_at s.heap its out;have rl:=z88 io;refine ⟨.ref (s.heap.objs.size+1),_,I.laid (t':=s.toks) (fun b o z=>sortedAll_old z) (_bz _) (show xn X.prog X.w _ (sortedAll s.heap its out) _ (.lst ((wC ns).map V.int)) from ⟨?_,_,c',rl,by simpa using e⟩),rfl,q _ (I.hok.fresh (_bz _))⟩;rw [_J,(z3p ns).length_eq,_au];omega
def z5l:List D->Option (List Int)
 | []=>some [] | .int a::r=>(z5l r).map (a::·) | _=>none
theorem z8e:∀ {xs:List D}{ns:List Int},z5l xs=some ns->xs=ns.map D.int
 | [],_,e=>by simp [z5l] at e;subst e;rfl | x::xs,ns,e=>by
  unfold z5l at e;split at e;·rename_i h;cases h
  ·rename_i a r h;cases h;cases q:z5l xs with
   | none=>rw [q] at e;simp at e | some t=>
    rw [q] at e;simp only [_T,_p] at e;subst e;rw [z8e q];rfl
  ·cases e
theorem z7z:∀ {mg:Gm}{H:Hp}{Y:List Addr}{ns:List Int}{vs:List V},zA mg H Y (ns.map D.int) vs->vs=ns.map V.int
 | _,_,_,[],_,h=>by simpa [zA] using h | mg,H,Y,n::ns,vs,h=>by
  simp only [_w,zA] at h;obtain ⟨v,r,rfl,h1,h2⟩:=h;rw [yd h1,z7z h2];rfl
theorem z7p(mg:Gm)(H:Hp)(Y:List Addr):∀ ns:List Int,zA mg H Y (ns.map D.int) (ns.map V.int)
 | []=>by simp [zA] | n::ns=>by simp only [_w];exact zA.cons (by simp [Den]) (z7p mg H Y ns)
def uc:List D->Sto->R D
 | [.tup xs],s=>match z5l xs with
  | some ns=>if ns.length<64 then .ok (.lst ((wC ns).map D.int)) s else .no | none=>.no
 | _,_=>.no
theorem z3H:∃ r,xD X (.builtin "sorted") r/\z04 X E r uc:=⟨_,z8Z.freeze,fun H Y s ds vs Q r hd h=>by
 unfold uc at h;split at h
 ·split at h
  ·rename_i xs ns e;split at h
   ·rename_i h64;obtain ⟨v,rfl,dn⟩:=z0a hd;rw [z8e e] at dn;obtain ⟨c,us,rfl,q1,q2⟩:=uh (K:=X.K) dn;rw [z7z q2] at q1;exact ⟨c,ns,rfl,q1,h64,uA r h (z7p _ _ _ _)⟩
   ·exact h.elim
  ·exact h.elim
 ·exact h.elim⟩
end
def xk(p q:Int×Str):Bool:=if p.1=q.1 then (if p.2=q.2 then false else decide (p.2.cps.toList<q.2.cps.toList)) else decide (p.1<q.1)
def z3J(h:Heap)(v:Value)(p:Int×Str):Prop:=∃ a o n t u,v=.ref a/\h.get? a=some o/\o.cls=.type "tuple"/\o.data=.seq #[.int p.1 t,.str p.2 u] n
inductive yw (h:Heap):List Value->List (Int×Str)->Prop | nil:yw h [] [] | cons {v p vs ps}:z3J h v p->yw h vs ps->yw h (v::vs) (p::ps)
theorem yw.length{h:Heap}:∀ {vs ps},yw h vs ps->vs.length=ps.length
 | _,_,.nil=>rfl | _,_,.cons _ r=>by simp [r.length]
theorem yw.at_{h:Heap}:∀ {vs ps},yw h vs ps->∀ i,i<ps.length->z3J h (vs.getD i .none) (ps.getD i (0,""))
 | _,_,.nil,i,hi=>by simp at hi | _,_,.cons p r,0,_=>by simpa using p | _,_,.cons p r,i+1,hi=>by simpa using r.at_ i (by simpa using hi)
theorem yw.mono{h h':Heap}(k:∀ b o,h.get? b=some o->h'.get? b=some o):∀ {vs ps},yw h vs ps->yw h' vs ps
 | _,_,.nil=>.nil | _,_,.cons ⟨a,o,n,t,u,e,g,c,d⟩ r=>.cons ⟨a,o,n,t,u,e,k _ _ g,c,d⟩ (r.mono k)
theorem yw.tups{h:Heap}:∀ {vs ps},yw h vs ps->∃ fs,KatTups h vs fs/\fs.length=ps.length/\∀ v∈fs,∃ i t,v=.int i t
 | _,_,.nil=>⟨[],KatTups.nil,rfl,fun v hv=>by cases hv⟩ | _,_,.cons (p:=p) ⟨a,o,n,t,u,e,g,c,d⟩ r=>by
  obtain ⟨fs,k,l,m⟩:=r.tups;subst e;refine ⟨.int p.1 t::fs,KatTups.cons g c d rfl k,by simp [l],fun v hv=>?_⟩;rcases _r.mp hv with rfl | hv;·exact ⟨_,_,rfl⟩
  ·exact m v hv
section
variable {prog:Program}{w:World}{A:Around}{E:Value->Shared->Prop}{s:Shared}
theorem zbY{v u:Value}{p q:Int×Str}{C:Bool->Shared->Prop}(hv:z3J s.heap v p)(hu:z3J s.heap u q)(h:C (xk p q) s):wpAny (model prog w) A (keyLt' (tuples' true) v u) C E s:=by
 obtain ⟨a,o,n,t,t',rfl,g,c,d⟩:=hv;obtain ⟨b,o',n',x,x',rfl,g',c',d'⟩:=hu;refine kat_lt g d g' d' (kat_cons (_bL (kat_go (fun e=>kat_yes (kat_cons (wpAny_eqBool_str (kat_go (fun e2=>kat_yes (kat_nil ?_)) fun e2=>kat_no ?_)))) fun e=>kat_no ?_)))
 ·have e1:p.1=q.1:=by simpa using e
  have e3:p.2=q.2:=by simpa using e2
  simpa [xk,e1,e3] using h
 ·have e1:p.1=q.1:=by simpa using e
  have e3:¬ p.2=q.2:=by simpa using e2
  refine kat_one _ _ (PyProof.Rows.lt_str ?_);show C _ s;simpa [xk,e1,e3] using h
 ·have e1:¬ p.1=q.1:=by simpa using e
  have hb:(true&&((0:Nat)==0))=true:=rfl;rw [hb];refine oneLt_int ?_;simpa [xk,e1] using h
theorem z6E{vs:List Value}{ps:List (Int×Str)}{Q:SortKind->Shared->Prop}(hp:yw s.heap vs ps)(h0:0<ps.length)(h:Q (tuples' true) s):wpAny (model prog w) A (keyKind' vs.toArray) Q E s:=by
 obtain ⟨fs,k,l,m⟩:=hp.tups;refine kat_kind (T:=.type "int") k (by rw [l];exact h0) (fun v hv=>?_) rfl h;obtain ⟨i,t,rfl⟩:=m v hv;exact Looks.of_pure rfl
theorem z3M {a:Addr} {vs:List Value} {ps:List (Int×Str)} {n:Nat} {p:Array Nat} {P:PySem.Fin->Shared->Prop} (ho:s.heap.get? a=some (seqObj "list" vs.toArray n)) (hp:∀ h',(∀ b o,b≠a->s.heap.get? b=some o->h'.get? b=some o)->yw h' vs ps) (h2:2<=vs.length) (h64:vs.length<64) (he:kev ps.length (fun i j=>xk (ps.getD i (0,"")) (ps.getD j (0,""))) (kas_sort ps.length)=some p) (h:P (.done (.ret .none)) {s with heap:=sortedHeap s.heap a vs (z5c vs p)}):wpAny (model prog w) A (Builtin.«list.sort» ⟨[.ref a],[]⟩) P E s:=by
 have ha:a<s.heap.objs.size:=_m ho;have hline:vs.length<=sizeLine:=by rw [_au];omega
 have lenP:vs.length=ps.length:=(hp s.heap fun _ _ _ e=>e).length;obtain ⟨e1,g1⟩:∃ e1,(s.heap.update a (Obj.mapSeq fun _=>(#[]:Array Value))).get? a=some (seqObj "list" #[] e1):=⟨_,get?_update_seq ho fun _=>#[]⟩;have g2:(((s.heap.update a (Obj.mapSeq fun _=>(#[]:Array Value))).push (seqObj "tuple" vs.toArray 0)).push (seqObj "list" #[] 0)).get? a=some (seqObj "list" #[] e1):=_b _ (_b _ g1);have hp1:yw (((s.heap.update a (Obj.mapSeq fun _=>(#[]:Array Value))).push (seqObj "tuple" vs.toArray 0)).push (seqObj "list" #[] 0)) vs ps:=hp _ fun b o hb e=> _b _ (_b _ (((_bl s.heap a (Obj.mapSeq fun _=>(#[]:Array Value))).2 b hb).trans e));rw [list_sort_plain];refine _a (_cZ ho rfl (_a (_bS ho rfl (_a (seqEpoch_at g1 rfl (_a (_ci (_a (_br (_at ?_) (_aj _))) hline)))) (by rw [_k];exact hline) (_aj _))));have big:¬ vs.toArray.size<2:=by rw [_k];omega
 dsimp only;rw [_o big,_o big];refine _a (z6E (s:={s with heap:=((s.heap.update a (Obj.mapSeq fun _=>(#[]:Array Value))).push (seqObj "tuple" vs.toArray 0)).push (seqObj "list" #[] 0)}) hp1 (by omega) ?_);refine _a (_x (kat_run (ks:=vs) (vs:=vs) (G:=fun q s'=>q=p/\s'={s with heap:=((s.heap.update a (Obj.mapSeq fun _=>(#[]:Array Value))).push (seqObj "tuple" vs.toArray 0)).push (seqObj "list" #[] 0)}) (Q:=fun st' s'=>∃ q:Array Nat,q.size=vs.length/\arrOf st'=q.map (kas_item (vs.toArray.zip vs.toArray))/\failedOf st'=none/\q=p/\s'={s with heap:=((s.heap.update a (Obj.mapSeq fun _=>(#[]:Array Value))).push (seqObj "tuple" vs.toArray 0)).push (seqObj "list" #[] 0)}) rfl h2 h64 (fun q st' s' a1 a2 a3 a4=>⟨q,a1,a2,a3,a4⟩) (zaS (n:=ps.length) (fun i j C hi hj hC=>?_) _ p (by rw [lenP];exact he) ⟨rfl,rfl⟩)) ?_ fun _ _ z=>z);·exact zbY (hp1.at_ i hi) (hp1.at_ j hj) hC
 rintro ⟨⟨⟩,st'⟩ s' ⟨q,hq,har,hf,rfl,rfl⟩;dsimp only;have out:=kat_snds (ks:=vs) (vs:=vs) rfl har;rw [out,hf];refine _a (seqEpoch_at g2 rfl (_a (_bS g2 rfl ?_ (_aj _) (by rw [_k,_J,_aY,hq];exact Nat.le_succ_of_le hline))));simp only [bne_self_eq_false,Bool.false_eq_true,_bq];exact _g h
theorem z8G {l:Addr} {vs:List Value} {ps:List (Int×Str)} {p:Array Nat} {Q:Value->Shared->Prop} (hl:s.heap.IsList l vs.toArray) (hp:yw s.heap vs ps) (h2:2<=vs.length) (h64:vs.length<64) (he:kev ps.length (fun i j=>xk (ps.getD i (0,"")) (ps.getD j (0,""))) (kas_sort ps.length)=some p) (h:Q (.ref (s.heap.objs.size+1)) {s with heap:=sortedAll s.heap vs (z5c vs p)}): wpAny (model prog w) A (call (.builtin "sorted") [.ref l]) Q E s:=by
 have hline:vs.length<=sizeLine:=by rw [_au];omega
 refine _bk kind_sorted plain_sorted entry_sorted (args_sorted1 _) ?_;unfold Builtin.«sorted»;refine _a (m:=checkCount "sorted" 1 1 _) (_g (_a (collect_list hl (_a (_br ?_ (by rw [_au];omega))) (by rw [_au];omega))));have sz:((s.heap.push (seqObj "list" #[] 0)).update s.heap.objs.size (Obj.mapSeq (· ++ vs.toArray))).objs.size=s.heap.objs.size+1:=by rw [_cS,size_push']
 have g:(((s.heap.push (seqObj "list" #[] 0)).update s.heap.objs.size (Obj.mapSeq (· ++ vs.toArray))).push (seqObj "list" vs.toArray 0)).get? (s.heap.objs.size+1)=some (seqObj "list" vs.toArray 0):=by
  rw [<- sz];exact _n _ rfl
 have keep:∀ b o,s.heap.get? b=some o->(((s.heap.push (seqObj "list" #[] 0)).update s.heap.objs.size (Obj.mapSeq (· ++ vs.toArray))).push (seqObj "list" vs.toArray 0)).get? b=some o/\b≠s.heap.objs.size+1:=fun b o q=>by
  have lt:b<s.heap.objs.size:=_m q;refine ⟨?_,_u (_ai lt)⟩;rw [_bH _ _ _ (by rw [sz];exact _u (_ai lt)),Heap.get?_update_ne _ _ _ _ (_u lt),_bH _ _ _ (_u lt)];exact q
 show wpAny (model prog w) _ _ _ _ {s with heap:=((s.heap.push (seqObj "list" #[] 0)).update s.heap.objs.size (Obj.mapSeq (· ++ vs.toArray))).push (seqObj "list" vs.toArray 0)};rw [sz];exact _a (_at (_U slot_list_sort ⟨_,g,rfl⟩ entry_list_sort (z3M g (fun h' k=>hp.mono fun b o q=>k b o (keep b o q).2 (keep b o q).1) h2 h64 he ⟨_,rfl,_g ⟨_,rfl,h⟩⟩) (args_list_sort _)))
end
section
variable {X:Cx}{E:XK}
def qP:List D->Option (List (Int×Str))
 | []=>some [] | .tup [.int a,.str b]::r=>(qP r).map fun t=>(a,b)::t | _=>none
def zbK(K:W.Frag):List V->Hp->VK->Prop:=fun xs H Q=>∃ (l:Addr)(ys:List V)(ps:List (Int×Str))(p:Array Nat),xs=[.ref l]/\SqL K H l ys/\ys.length=ps.length/\2<=ys.length/\ys.length<64/\ (∀ i,i<ps.length->∃ a,ys[i]? = some (.ref a)/\SqT K H a [.int (ps.getD i (0,"")).1,.str (ps.getD i (0,"")).2])/\ kev ps.length (fun i j=>xk (ps.getD i (0,"")) (ps.getD j (0,""))) (kas_sort ps.length)=some p/\(∀ i∈p.toList,i<ys.length)/\p.toList.length=ys.length/\∀ r,H r=none->Q (.ref r) (upd H r (.lst (p.toList.map fun i=>ys.getD i .non)))
theorem z6g{pins:List (Addr×Obj)}{O:L2.St}{H:Hp}{s:Shared}(I:Inv X pins O H s):∀ {ys:List V}{its:List Value}{ps:List (Int×Str)},yA ys its->ys.length=ps.length-> (∀ i,i<ps.length->∃ a,ys[i]? = some (.ref a)/\SqT X.K H a [.int (ps.getD i (0,"")).1,.str (ps.getD i (0,"")).2])->yw s.heap its ps
 | [],_,[],.nil,_,_=>.nil | [],_,_::_,_,l,_=>by simp at l | _::_,_,[],_,l,_=>by simp at l | y::ys,_,q::ps,.cons r rs,l,h=>by
  refine .cons ?_ (z6g I rs (by simpa using l) fun i hi=>by simpa using h (i+1) (by simpa using hi));obtain ⟨a,e,t⟩:=h 0 (by simp);simp only [_e,_p] at e;subst e;cases r;obtain ⟨its',r',pl,_⟩:=I.tuple t;obtain ⟨o,ho,hc,n,hd⟩:=pl;simp only [List.getD_cons_zero] at r';obtain ⟨u,us,rfl⟩:∃ u us,its'=u::us:=by cases r';exact ⟨_,_,rfl⟩
  cases r' with | cons r1 r2=>
   obtain ⟨t1,rfl⟩:=r1;obtain ⟨t2,rfl,t3,rfl⟩:=vals1 r2;exact ⟨a,o,n,t1,t3,rfl,ho,hc,hd⟩
theorem z3V:xD X (.builtin "sorted") (zbK X.K):=by
 intro pins s O H xs us Q I r h;obtain ⟨l,ys,ps,p,rfl,hq,len,h2,h64,hps,he,hp,hpl,q⟩:=h;obtain ⟨u,rfl,rx⟩:=vals1 r;cases rx;obtain ⟨its,r',pl,hz⟩:=I.list hq;have hlen:=r'.length;refine z8G (ps:=ps) (p:=p) pl.isList (z6g I r' len hps) (by omega) (by omega) he ?_;obtain ⟨c',e⟩:=sortedAll_at s.heap its (z5c its p);refine ⟨.ref (s.heap.objs.size+1),_,I.laid (t':=s.toks) (fun b o z=>sortedAll_old z) (_bz _) (show xn X.prog X.w _ (sortedAll s.heap its (z5c its p)) _ (.lst (p.toList.map fun i=>ys.getD i .non)) from ⟨?_,_,c',z3G r' p.toList hp,e⟩),rfl,q _ (I.hok.fresh (_bz _))⟩;rw [_J,hpl];exact hz
def z3h:List D->Sto->R D
 | [d],s=>match listOf s d with
  | some xs=>match qP xs with
   | some ps=>if 2<=xs.length/\xs.length<64 then match kev ps.length (fun i j=>xk (ps.getD i (0,"")) (ps.getD j (0,""))) (kas_sort ps.length) with
     | some p=>if p.toList.all (fun i=>decide (i<xs.length))=true/\p.toList.length=xs.length then .ok (.lst (p.toList.map fun i=>xs.getD i .non)) s else .no | none=>.no else .no | none=>.no
  | none=>.no
 | _,_=>.no
theorem z0I{mg:Gm}{H:Hp}{Y:List Addr}:∀ {xs:List D}{ps:List (Int×Str)}{vs:List V},qP xs=some ps->zA mg H Y xs vs->xs.length=ps.length/\ ∀ i,i<ps.length->∃ a,vs[i]? = some (.ref a)/\SqT mg.K H a [.int (ps.getD i (0,"")).1,.str (ps.getD i (0,"")).2]
 | [],ps,vs,e,h=>by
  simp only [qP,_p] at e;subst e;exact ⟨rfl,fun i hi=>by simp at hi⟩ | x::xs,ps,vs,e,h=>by
  unfold qP at e;split at e;·simp at *
  ·rename_i a b r z;cases z;cases q:qP xs with
   | none=>rw [q] at e;simp at e | some t=>
    rw [q] at e;simp only [_T,_p] at e;subst e;simp only [zA] at h;obtain ⟨v,ws,rfl,h1,h2⟩:=h;obtain ⟨l,k⟩:=z0I q h2;refine ⟨by simp [l],fun i hi=>?_⟩;cases i with
    | zero=>
     obtain ⟨c,us,rfl,q1,q2⟩:=uh (K:=mg.K) h1;obtain ⟨v1,v2,rfl,d1,d2⟩:=z4U q2;cases yd d1;cases uR d2;exact ⟨c,rfl,q1⟩ | succ i=>simpa using k i (by simpa using hi)
  ·cases e
theorem zaZ:∃ r,xD X (.builtin "sorted") r/\z04 X E r z3h:=⟨_,z3V.freeze,fun H Y s ds vs Q r hd h=>by
 unfold z3h at h;split at h
 ·split at h
  ·rename_i d xs e;split at h
   ·rename_i ps eps;split at h
    ·rename_i h2;split at h
     ·rename_i p ep;split at h
      ·rename_i hp;obtain ⟨v,rfl,dn⟩:=z0a hd;obtain ⟨a,ws,rfl,q1,q2⟩:=zM r e dn;obtain ⟨l,k⟩:=z0I eps q2;have hl:=q2.length;have hin:∀ i∈p.toList,i<xs.length:=fun i hi=>by simpa using _L.mp hp.1 i hi
       exact ⟨a,ws,ps,p,rfl,.inl q1,by omega,by omega,by omega,k,ep,fun i hi=>by have:=hin i hi;omega,by rw [hp.2];omega,uA r h (z4p q2 _ hin)⟩
      ·exact h.elim
     ·exact h.elim
    ·exact h.elim
   ·exact h.elim
  ·exact h.elim
 ·exact h.elim⟩
end
end Dd
namespace Dd
open L2
def z8w(P:Program)(w:World)(K:W.Frag)(mg:Str->Option Value)(x:Str)(ks:List Str):Prop:= ∃ a o es ep kvs,mg x=some (.ref a)/\(a==sysModules)=false/\K.lookup a=some o/\o.ExactDict/\o.data=.dict es ep/\PySem.KeysOf (yc P w) es/\PySem.Pairs (yc P w) es.toList kvs/\kvs.map (·.1)=ks.map Sum.inr/\(kvs.map (·.1)).Nodup
def Itk(ks:List Str):It:=⟨fun i _=>i<ks.length,fun i H x H'=>H'=H/\∃ k,ks[i]? = some k/\x=.str k,fun i _=>ks.length<=i⟩
theorem zec{k:Str}{u:Value}(h:z5H (.inr k) u=true):∃ t,u=.str k t:=by
 rcases yi h with ⟨i,t,e,_⟩ | ⟨x,t,e,e2⟩;·cases e
 ·cases e;exact ⟨t,e2⟩
theorem z9o {P:Program} {w:World} {K:W.Frag} {tg:Expr} {ks:List Str} {a it:Addr} {o:Obj} {es:Array DictEntry} {ep:Nat} {kvs:List (Key×Value)} (hk:K.lookup a=some o) (hx:o.ExactDict) (hd:o.data=.dict es ep) (ko:PySem.KeysOf (yc P w) es) (pr:PySem.Pairs (yc P w) es.toList kvs) (hks:kvs.map (·.1)=ks.map Sum.inr) (nd:(kvs.map (·.1)).Nodup):zbW P w K tg (Itk ks) [it] it (fun i h=>h.IsKeyIter it a i kvs.length ep) where
 mem:=by simp
 obj:=fun i h st b hb=>by
  have e:b=it:=by simpa using hb
  subst e;obtain ⟨o,e,c,d⟩:=st;exact ⟨o,e,fun v z=>by rw [d] at z;cases z⟩
 keep:=fun i h h' st k=>st.at fun o e=>k it (by simp) o e;item:=by
  intro X hP hw hK hc i pins s O H E I hf st hg;subst hP hw hK;have hl:kvs.length=ks.length:=by have:=_am List.length hks;simpa using this
  have hi:i<kvs.length:=by have:i<ks.length:=hg;omega
  have da:Heap.DictAt (yc X.prog X.w) s.heap a kvs ep:=⟨o,es,I.kIn _ o hk,hx,hd,ko,pr,nd⟩;obtain ⟨f0,f1,f2,f3,f4,f5⟩:=hf it (by simp);have hkey:(kvs[i].1:Key)=Sum.inr (ks[i]'(by omega)):=by
   have:=_am (fun l=>l[i]?) hks;simp only [_Z,_f hi,_f (show i<ks.length by omega),_T,_p] at this;exact this
  refine wpAny_pyNext_dict_item (k:=kvs[i].1) (v:=kvs[i].2) st da (by rw [_f hi]) fun key h' hk' st' sb=>?_;have I1:Inv X pins O H {s with heap:=h'}:=I.turned (t':=s.toks) (fun b o hb e=>(sb.2 b hb).trans e) f0 f1 f3 f4 f5;obtain ⟨o',e,c,d⟩:=id st';rw [hkey] at hk';obtain ⟨t,rfl⟩:=zec hk';exact ⟨_,rfl,zbA (s:={s with heap:=h'}) e c d (by decide) ⟨.str (ks[i]'(by omega)),H,I1,⟨t,rfl⟩,⟨rfl,_,_f (by omega),rfl⟩,st',fun b hb=>(hf b hb).1⟩⟩
 done:=by
  intro X hP hw hK hc i pins s O H E I hf st hg;subst hP hw hK;have hl:kvs.length=ks.length:=by have:=_am List.length hks;simpa using this
  have hi:kvs.length<=i:=by have:ks.length<=i:=hg;omega
  have da:Heap.DictAt (yc X.prog X.w) s.heap a kvs ep:=⟨o,es,I.kIn _ o hk,hx,hd,ko,pr,nd⟩;obtain ⟨f0,f1,f2,f3,f4,f5⟩:=hf it (by simp);exact wpAny_pyNext_dict_end (I.ok.hd hc) st da (List.getElem?_eq_none_iff.mpr hi) fun h' eb=>⟨rfl,I.turned (t':=s.toks) (fun b o hb e=>eb b o hb e) f0 f1 f3 f4 f5⟩
 self:=fun _ _ _ _ _ st h=>wpAny_pyIter_keyiter st h
section
variable {X:Cx}{E:XK}{tg:Expr}{p:Pos}{x:Str}{ks:List Str}
theorem zdW(hT:z8w X.prog X.w X.K X.mg x ks)(hg:Gl X x)(hdb:(x==("__debug__":Str))=false:=by decide):PI X tg (.Name x p) (fun O H R=>R (Itk ks) H):=by
 intro pins s O H R I h;obtain ⟨a,o,es,ep,kvs,hm,hsm,hk,hx,hd,ko,pr,hks,nd⟩:=hT;refine thn (z28 hg hm (show xK (.ref a) (.ref a) from rfl) hdb pins s O H (fun v H1=>v=.ref a/\H1=H) I ⟨rfl,rfl⟩) fun v s1 ⟨x1,H1,I1,r1,e1,e2⟩=>?_;subst e1 e2;cases r1;refine wpAny_pyIter_dict hsm (⟨o,es,I1.kIn _ o hk,hx,hd,ko,pr,nd⟩:Heap.DictAt (yc X.prog X.w) s1.heap a kvs ep) ?_;refine ⟨s1.heap.objs.size,[s1.heap.objs.size],_,_,H1,rfl,I1.kept (t':=s1.toks) fun b o e=>_b _ e,z9o (ks:=ks) hk hx hd ko pr hks nd,⟨_,_n _ rfl,rfl,rfl⟩,fun b hb=>?_,h⟩;have e:b=s1.heap.objs.size:=by simpa using hb
 subst e;exact I1.fpOk (_j _) (I1.hok.fresh (_j _))
def z8t(ks:List Str):FI:=fun _ s=>.ok (ks.map D.str,[]) s
theorem zg9(hT:z8w X.prog X.w X.K X.mg x ks)(hg:Gl X x)(hdb:(x==("__debug__":Str))=false:=by decide):RI X E tg (.Name x p) (z8t ks):= z51 (zdW hT hg hdb) fun O H Q ⟨Y,Z,s,r,en,h⟩=>by
  unfold z8t at h;refine h.here r fun H2 Y2 s2 stp2 _ i=>⟨fun d hd=>?_,fun hl=>?_⟩
  ·have hi:i<ks.length:=by
    have:=(_c.mp hd).1;simpa using this
   refine ⟨hi,fun x H' ⟨e1,k,e2,e3⟩=>?_⟩;subst e1 e3;refine ⟨Y2,.refl stp2.rep,?_⟩;have e4:d=D.str k:=by
    simp only [_Z,e2,_T,_p] at hd;exact hd.symm
   rw [e4];simp [Den]
  ·show ks.length<=i;simpa using hl
@[simp] theorem z9p (ks:List Str)(Z:Ev)(s:Sto):z8t ks Z s=.ok (ks.map D.str,[]) s:=id rfl
end
end Dd
namespace L2
theorem z4u(its:List Value):slicePick its.toArray none none (some (-1))=its.reverse.toArray:=by
 unfold slicePick;have e:sliceRange (sliceBounds none none (some (-1)) its.toArray.size).1 (sliceBounds none none (some (-1)) its.toArray.size).2.1 (sliceBounds none none (some (-1)) its.toArray.size).2.2=(List.range its.length).map fun k=>its.length-1-k:=by
  simp only [sliceBounds,_aH,_k];unfold sliceRange;have c:(if (-1:Int) > 0 then (if ((its.length:Int)-1) < -1 then (-1-((its.length:Int)-1)+-1-1) / -1 else 0) else if ((its.length:Int)-1) > -1 then (((its.length:Int)-1) - -1 - -1-1) / - -1 else 0).toNat=its.length:=by
   rw [_o (by decide)];by_cases h:its.length=0;·rw [h];rfl
   ·rw [_d (by omega)];have:(((its.length:Int)-1) - -1 - -1-1) / - -1=its.length:=by simp
    rw [this];simp
  simp only [show ¬ ((-1:Int) > 0) by decide,_bq] at c ⊢;rw [c];refine _bm fun k hk=>?_;have:=_az.mp hk;omega
 rw [e];congr 1;have key:∀ k,k<=its.length->((List.range k).map fun k=>its.length-1-k).filterMap (fun x=>its.toArray[x]?)=its.reverse.take k:=by
  intro k;induction k with
  | zero=>simp | succ k ih=>
   intro hk;rw [List.range_succ,List.map_append,List.filterMap_append,ih (by omega)];have hl:k<its.reverse.length:=by simp;omega
   rw [List.take_succ,_f hl];have h2:its.length-1-k<its.length:=by omega
   simp [h2]
 rw [key _ (_j _),_bG (by simp)]
section
variable {X:Cx}{e m:Expr}{te:TE}{pos p2:Pos}
def ziO(K:W.Frag)(te:TE):TE:=fun O H Q=>te O H fun x H1=>∃ a xs,x=.ref a/\SqL K H1 a xs/\∀ p,H1 p=none->Q (.ref p) (upd H1 p (.lst xs.reverse))
theorem zfr (he:PE X e te) (hm:∀ (pins:List (Addr×Obj)) (s:Shared) (O:St) (H:Hp),Inv X pins O H s->wpAny (model X.prog X.w) X.A (evalPart (some m) X.env) (fun u s'=>∃ t,u=.int (-1) t/\Inv X pins O H s') X.xe s): PE X (.Subscript e (.Slice none none (some m) p2) pos) (ziO X.K te):=by
 intro pins s O H Q I h;refine Subscript_ (thn (he pins s O H _ I h) fun v s1 ⟨x,H1,I1,r1,q1⟩=>?_);refine wpAny_Slice ?_;rw [_cx];refine _g (_g ?_);refine thn (hm pins s1 O H1 I1) fun u s3 ⟨t,eu,I3⟩=>?_;subst eu;have I4:Inv X pins O H1 {s3 with heap:=s3.heap.push {cls:=.type "slice",data:=.fields #[.none,.none,.int (-1) t]}}:=I3.kept (t':=s3.toks) fun b ob q=>_b _ q;obtain ⟨a,xs,rfl,hx,q⟩:=q1;cases r1;obtain ⟨its,r,ht,hz⟩:=I4.list hx;show wpAny (model X.prog X.w) X.A (subscriptTail e (.Slice none none (some m) p2) (.ref a) (.ref s3.heap.objs.size)) (EP X pins O Q) X.xe {s3 with heap:=s3.heap.push {cls:=.type "slice",data:=.fields #[.none,.none,.int (-1) t]}};refine tail_any (ops:=[.ref a,.ref s3.heap.objs.size]) ht.isList.typeIs _cs.lookup ?_ (by with_unfolding_all rfl);have hlen:=r.length;refine wpAny_getItem_list_slice ht.isList (_cg ..) .none .none (.int _ _) (by simp) ?_ (by rw [_k]<;>omega);rw [z4u];refine ⟨.ref _,_,I4.laid (t':=s3.toks) (o:=.lst xs.reverse) (fun b ob q=>_b _ q) (_j _) ?_,rfl,q _ (I4.hok.fresh (_j _))⟩;have hr:yA xs.reverse its.reverse:=by
  clear hx hz ht q I4 hlen;induction r with
  | nil=>exact .nil | cons p _ ih=>rw [_aT,_aT];exact ih.append (.cons p .nil)
 exact ⟨by simpa using hz,_,0,hr,_n _ rfl⟩
end
end L2
namespace Dd
open L2
section
variable {X:Cx}{E:XK}{e:Expr}{pos p2 p3 p4:Pos}
def z5O(f:FE):FE:=fun Z s=>(f Z s).bind fun d s1=>match listOf s1 d with
 | some xs=>.ok (.lst xs.reverse) s1 | none=>.no
theorem z7P {j:Nat} {f:FE} (he:RE X E e f):RE X E (.Subscript e (.Slice none none (some (.UnaryOp .USub (.Constant (.int 1) j p3) p4)) p2) pos) (z5O f):= zN (zfr he fun pins s O H I=>by
  rw [evalPart_some];refine thn ((zfa (pos:=p4) z9Y (zb1 (i:=1) (j:=j) (pos:=p3))) pins s O H (fun v H1=>v=.int (-1)/\H1=H) I ?_) fun u s1 ⟨x,H1,I1,r1,e1,e2⟩=>?_;·exact ⟨1,rfl,rfl,rfl⟩
  ·subst e1 e2;obtain ⟨t,rfl⟩:=r1;exact ⟨t,rfl,I1⟩).freeze fun O H Q ⟨Y,Z,s,r,en,h⟩=>by
  unfold z5O at h;refine ⟨Y,Z,s,r,en,(okR.bind (Dn:=Den (gm X)) h).imp fun v H1 ⟨Y1,s1,d,stp,dn,h1⟩=>?_⟩;split at h1
  ·rename_i xs ex;obtain ⟨a,ws,rfl,q1,q2⟩:=zM stp.rep ex dn;exact ⟨a,ws,rfl,.inl q1,uA stp.rep h1 q2.rev⟩
  ·exact h1.elim
@[simp] theorem z9z (f:FE)(Z:Ev)(s:Sto):z5O f Z s=(f Z s).bind fun d s1=>match listOf s1 d with
 | some xs=>.ok (.lst xs.reverse) s1 | none=>.no:=id rfl
end
theorem z1X {P:Program} {w:World} {K:W.Frag}:∀ {es:List DictEntry} {tb:List (Str×Str)},z2H K es (tb.map (·.2))=tb.map (fun p=>(PyData.keyHash w.params p.1,some p.1,true))-> ∃ kvs:List (Key×Value),PySem.Pairs (yc P w) es kvs/\kvs.map (·.1)=(tb.map Prod.fst).map Sum.inr
 | [],[],_=>⟨[],.nil,rfl⟩ | [],_::_,h=>by simp [z2H] at h | _::_,[],h=>by simp [z2H] at h | e::es,(k0,y0)::tb,h=>by
  simp only [_w,z2H,_b0,_aW] at h;obtain ⟨⟨h1,h2,h3⟩,h4⟩:=h;obtain ⟨kvs,p,q⟩:=z1X (P:=P) (w:=w) h4;obtain ⟨hh,kk,vv⟩:=e;simp only at h1 h2 h3;cases kk with
  | str ks t=>
   simp only [z66,_p] at h2;subst h2;exact ⟨(.inr ks,vv)::kvs,.cons (kX ks t) rfl p,by simp [q]⟩ | _=>simp [z66] at h2
theorem zbH {P:Program} {w:World} {K:W.Frag} {h:Heap} {mg:Str->Option Value} {x:Str} {tb:List (Str×Str)} (X:K.In h) (G:h.Ns mainGlobals mg) (e:zaw K x (tb.map (·.2))=zg3 w tb) (nd:(tb.map Prod.fst).Nodup):z8w P w K mg x (tb.map Prod.fst):=by
 unfold zaw zg3 at e;split at e
 ·rename_i a ha;split at e
  ·rename_i c d es ep sl hl;simp only [_p,_aW] at e;obtain ⟨e1,e2,e3,e4,e5⟩:=e;obtain ⟨i1,i2,i3⟩:=z3O (P:=P) X G e5;obtain ⟨kvs,p,q⟩:=z1X (P:=P) (w:=w) e5;have hc:c=.type "dict":=by
    unfold z1S at e1;split at e1
    ·rename_i n;have:n="dict":=by simpa using e1
     rw [this]
    ·cases e1
   have hd:d=none:=by simpa using e2
   have hs:sl=#[]:=by
    have:sl.size=0:=by simpa using e3
    exact _bP this
   have ea:es.toList.toArray=es:=by simp
   rw [ea] at i1;refine ⟨a,_,es,ep,kvs,W.mg_of X G ha,e4,hl,⟨hc,hd,hs⟩,rfl,i1,p,q,?_⟩;rw [q];exact List.Pairwise.map _ (fun a b h z=>h (Sum.inr.inj z)) nd
  ·cases e
 ·cases e
theorem zfY{P:Program}{q:Ask}{w:World}{K:W.Frag}{h:Heap}{mg:Str->Option Value}(X:K.In h)(G:h.Ns mainGlobals mg)(e:z8K q K=valS q w)(x:Str)(tb:List (Str×Str))(hx:(x,tb)∈q.ts)(nd:(tb.map Prod.fst).Nodup):z8w P w K mg x (tb.map Prod.fst):=zbH X G (z2u (_am (fun z=>z.2.2.2.1) e) (x,tb) hx) nd
def vD:V->D
 | .int i=>.int i | .bl b=>.bl b | _=>.non
def zkg(kvs:List (List Key×V)):List D:=kvs.map fun p=>.tup [.tup (p.1.map zjy),vD p.2]
variable {X:Cx}{E:XK}
theorem z4L:∀ a b:List Int,PyData.eqvAll (toPys (a.map D.int)) (toPys (b.map D.int))=decide (a=b)
 | [],[]=>by simp [toPys,PyData.eqvAll] | [],_::_=>by simp [toPys,PyData.eqvAll] | _::_,[]=>by simp [toPys,PyData.eqvAll] | x::a,y::b=>by
  simp only [_w,toPys,vO,PyData.eqvAll,PyData.eqv,z4L a b,_b0];by_cases h:x=y<;>by_cases h2:a=b<;>simp [h,h2]
end Dd
namespace L2
open PySem.Builtin.Str
variable {X:Cx}
end L2
namespace Dd
open L2 PySem.Builtin.Str
end Dd
namespace Zz
end Zz
namespace L2
open Zz
end L2
namespace Dd
open L2
def lexN:List Int->List Int->Bool
 | [],[]=>false | [],_::_=>true | _::_,[]=>false | x::a,y::b=>if x=y then lexN a b else decide (x<y)
end Dd
namespace L2
end L2
namespace Dd
open L2
end Dd
namespace L2
end L2
namespace Dd
open L2
end Dd
namespace L2
end L2
namespace Dd
open L2
end Dd
namespace L2
def n3(a b c:Int):Nat:=if a<b then ((b-a-1) / c+1).toNat else 0
end L2
namespace Dd
open L2
open PySem.W
theorem jy{α β:Type}{n:Nat}{lt:Nat->Nat->Bool}(f:α->KasT β):∀ t:KasT α,kev n lt (t.bind f)=(kev n lt t).bind fun a=>kev n lt (f a)
 | .ret a=>rfl | .ask i j k=>by
  show (if i<n/\j<n then kev n lt ((k (lt i j)).bind f) else none)=(if i<n/\j<n then kev n lt (k (lt i j)) else none).bind _;split;·exact jy f _
  ·rfl
section
variable {N:Nat}{lt:Nat->Nat->Bool}(tot:∀ i j,i<N->j<N->i≠j->lt j i=!lt i j)(tr:∀ i j k,lt i j=true->lt j k=true->lt i k=true)
abbrev at0(p:Array Nat)(i:Nat):Nat:=p.getD i 0
structure PmN(N:Nat)(p:Array Nat):Prop where pm:p.toList.Perm (List.range N)
theorem PmN.size{p:Array Nat}(h:PmN N p):p.size=N:=by have:=h.pm.length_eq;simpa using this
theorem PmN.bd{p:Array Nat}(h:PmN N p){i:Nat}(hi:i<N):at0 p i<N:=by
 have hs:=h.size;have:at0 p i∈p.toList:=by
  rw [at0,Array.getD,dif_pos (by omega)];exact Array.getElem_mem_toList _
 exact _az.mp (h.pm.mem_iff.mp this)
theorem PmN.ne {p:Array Nat} (h:PmN N p) {i j:Nat} (hi:i<N) (hj:j<N) (hij:i≠j):at0 p i≠at0 p j:=fun z=>by
 have hs:=h.size;have nd:p.toList.Nodup:=h.pm.nodup_iff.mpr List.nodup_range;rw [at0,at0,Array.getD,Array.getD,dif_pos (by omega),dif_pos (by omega)] at z;have:=(_aG (i:=i) (j:=j) (h₀:=by simpa using (by omega:i<p.size)) (h₁:=by simpa using (by omega:j<p.size)) nd).mp (by simpa using z);exact hij this
theorem PmN.of{p q:Array Nat}(h:PmN N p)(e:q.Perm p):PmN N q:=⟨(Array.perm_iff_toList_perm.mp e).trans h.pm⟩
def Asc(lt:Nat->Nat->Bool)(p:Array Nat)(k:Nat):Prop:=∀ i j,i<j->j<k->lt (at0 p i) (at0 p j)=true
def Des(lt:Nat->Nat->Bool)(p:Array Nat)(k:Nat):Prop:=∀ i j,i<j->j<k->lt (at0 p j) (at0 p i)=true
include tr
theorem Asc.more{p:Array Nat}{k:Nat}(h:Asc lt p k)(h1:1<=k)(e:lt (at0 p (k-1)) (at0 p k)=true):Asc lt p (k+1):=fun i j hij hj=>by
 by_cases q:j=k
 ·subst q;by_cases q2:i=j-1;·subst q2;exact e
  ·exact tr _ _ _ (h i (j-1) (by omega) (by omega)) e
 ·exact h i j hij (by omega)
theorem Des.more{p:Array Nat}{k:Nat}(h:Des lt p k)(h1:1<=k)(e:lt (at0 p k) (at0 p (k-1))=true):Des lt p (k+1):=fun i j hij hj=>by
 by_cases q:j=k
 ·subst q;by_cases q2:i=j-1;·subst q2;exact e
  ·exact tr _ _ _ e (h i (j-1) (by omega) (by omega))
 ·exact h i j hij (by omega)
include tot
theorem z72{p:Array Nat}(P:PmN N p):∀ (f n0:Nat),1<=n0->n0+f<=N->Asc lt p n0->∃ m,kev N lt (kas_asc p f n0)=some m/\n0<=m/\m<=n0+f/\Asc lt p m/\(m<n0+f->lt (at0 p m) (at0 p (m-1))=true)
 | 0,n0,h1,hN,ha=>⟨n0,rfl,_j _,_j _,ha,fun z=>absurd z (by omega)⟩ | f+1,n0,h1,hN,ha=>by
  have b1:=P.bd (i:=n0) (by omega);have b2:=P.bd (i:=n0-1) (by omega);by_cases c:lt (at0 p n0) (at0 p (n0-1))=true
  ·refine ⟨n0,?_,_j _,by omega,ha,fun _=>c⟩;show (if at0 p n0<N/\at0 p (n0-1)<N then kev N lt (if lt (at0 p n0) (at0 p (n0-1))=true then KasT.ret n0 else kas_asc p f (n0+1)) else none)=_;rw [_d ⟨b1,b2⟩,_d c];rfl
  ·have e:lt (at0 p (n0-1)) (at0 p n0)=true:=by
    rw [tot _ _ b1 b2 (P.ne (by omega) (by omega) (by omega))];simpa using c
   obtain ⟨m,e1,e2,e3,e4,e5⟩:=z72 P f (n0+1) (by omega) (by omega) (ha.more tr h1 e);refine ⟨m,?_,by omega,by omega,e4,fun z=>e5 (by omega)⟩;show (if at0 p n0<N/\at0 p (n0-1)<N then kev N lt (if lt (at0 p n0) (at0 p (n0-1))=true then KasT.ret n0 else kas_asc p f (n0+1)) else none)=_;rw [_d ⟨b1,b2⟩,_o c];exact e1
theorem z7l{p:Array Nat}(P:PmN N p):∀ (f n0:Nat),1<=n0->n0+f<=N->Des lt p n0->∃ m,kev N lt (kas_desc f p n0 0)=some (p,m,0)/\n0<=m/\m<=n0+f/\Des lt p m
 | 0,n0,h1,hN,ha=>⟨n0,rfl,_j _,_j _,ha⟩ | f+1,n0,h1,hN,ha=>by
  have b1:=P.bd (i:=n0) (by omega);have b2:=P.bd (i:=n0-1) (by omega);by_cases c:lt (at0 p n0) (at0 p (n0-1))=true
  ·obtain ⟨m,e1,e2,e3,e4⟩:=z7l P f (n0+1) (by omega) (by omega) (ha.more tr h1 c);refine ⟨m,?_,by omega,by omega,e4⟩;show (if at0 p n0<N/\at0 p (n0-1)<N then kev N lt (if lt (at0 p n0) (at0 p (n0-1))=true then (if 0 > 0 then kas_desc f (kas_rev p (n0-(0+1)) n0) (n0+1) 0 else kas_desc f p (n0+1) 0) else _) else none)=_;rw [_d ⟨b1,b2⟩,_d c,_o (by omega)];exact e1
  ·have e:lt (at0 p (n0-1)) (at0 p n0)=true:=by
    rw [tot _ _ b1 b2 (P.ne (by omega) (by omega) (by omega))];simpa using c
   refine ⟨n0,?_,_j _,by omega,ha⟩;show (if at0 p n0<N/\at0 p (n0-1)<N then kev N lt (if lt (at0 p n0) (at0 p (n0-1))=true then _ else KasT.ask (at0 p (n0-1)) (at0 p n0) fun d=>if d=true then .ret (p,n0,0) else kas_desc f p (n0+1) (0+1)) else none)=_;rw [_d ⟨b1,b2⟩,_o c];show (if at0 p (n0-1)<N/\at0 p n0<N then kev N lt (if lt (at0 p (n0-1)) (at0 p n0)=true then .ret (p,n0,0) else kas_desc f p (n0+1) (0+1)) else none)=_;rw [_d ⟨b2,b1⟩,_d e];rfl
omit tot tr in
theorem zds {p:Array Nat} {m i:Nat} (hm:m<=p.size) (hi:i<m):at0 (kas_rev p 0 m) i=at0 p (m-1-i):=by
 have e:=getElem?_mirror_all (xs:=p) (i:=0) (j:=m) hm i;rw [_d ⟨_aj _,hi⟩] at e;simp only [at0,Array.getD_eq_getD_getElem?,kas_rev];rw [e];simp
theorem z9E{p:Array Nat}(P:PmN N p)(hN:1<=N):∃ m p',kev N lt (kas_count N p)=some (m,p')/\PmN N p'/\Asc lt p' m/\1<=m/\m<=N:=by
 obtain ⟨m,e1,e2,e3,e4,e5⟩:=z72 tot tr P (N-1) 1 (_j _) (by omega) (fun i j h1 h2=>by omega);unfold kas_count;rw [jy,e1];simp only [_G];by_cases q:m=N
 ·rw [_d (by simpa using q)];exact ⟨m,p,rfl,P,e4,e2,by omega⟩
 ·rw [_o (by simpa using q)];by_cases q1:m > 1
  ·rw [_d q1];have b1:=P.bd (i:=0) (by omega);have b2:=P.bd (i:=m-1) (by omega);have c:=e4 0 (m-1) (by omega) (by omega);refine ⟨m,p,?_,P,e4,e2,by omega⟩;show (if at0 p 0<N/\at0 p (m-1)<N then kev N lt (if lt (at0 p 0) (at0 p (m-1))=true then KasT.ret (m,p) else _) else none)=_;rw [_d ⟨b1,b2⟩,_d c];rfl
  ·rw [_o q1];have m1:m=1:=by omega
   subst m1;have c:=e5 (by omega);obtain ⟨k,f1,f2,f3,f4⟩:=z7l tot tr P (N-(1+1)) (1+1) (by omega) (by omega) (fun i j h1 h2=>by
    have:i=0:=by omega
    have:j=1:=by omega
    subst i;subst j;exact c);unfold kas_descPart;rw [jy,f1];simp only [_G];rw [_o (by omega)];unfold kas_tail3;have P2:PmN N (kas_rev p 0 k):=P.of (mirror_perm _ _ _ _);have sz:=P.size;have as2:Asc lt (kas_rev p 0 k) k:=fun i j h1 h2=>by
    rw [zds (by omega) (by omega),zds (by omega) (by omega)];exact f4 _ _ (by omega) (by omega)
   obtain ⟨m2,g1,g2,g3,g4,_⟩:=z72 tot tr P2 (N-k) k (by omega) (by omega) as2;rw [jy,g1];exact ⟨m2,kas_rev p 0 k,rfl,P2,g4,by omega,by omega⟩
theorem z1y{p:Array Nat}(P:PmN N p){k:Nat}(hk:k<N)(ha:Asc lt p k):∀ (f l r:Nat),l<=r->r<=k->r-l<=f->(∀ i,i<l->lt (at0 p i) (at0 p k)=true)->(∀ i,r<=i->i<k->lt (at0 p k) (at0 p i)=true)-> ∃ m,kev N lt (kas_place p k f l r)=some m/\m<=k/\(∀ i,i<m->lt (at0 p i) (at0 p k)=true)/\∀ i,m<=i->i<k->lt (at0 p k) (at0 p i)=true
 | 0,l,r,h1,h2,h3,hl,hr=>⟨l,rfl,by omega,hl,fun i z1 z2=>hr i (by omega) z2⟩ | f+1,l,r,h1,h2,h3,hl,hr=>by
  by_cases q:l ≥ r
  ·refine ⟨l,?_,by omega,hl,fun i z1 z2=>hr i (by omega) z2⟩;rw [kas_place,_d q];rfl
  ·have b1:=P.bd (i:=k) hk;have b2:=P.bd (i:=(l+r) / 2) (by omega);by_cases c:lt (at0 p k) (at0 p ((l+r) / 2))=true
   ·obtain ⟨m,e1,e2,e3,e4⟩:=z1y P hk ha f l ((l+r) / 2) (by omega) (by omega) (by omega) hl (fun i z1 z2=>by
     by_cases z:i=(l+r) / 2;·subst z;exact c
     ·exact tr _ _ _ c (ha _ _ (by omega) z2));refine ⟨m,?_,e2,e3,e4⟩;rw [kas_place,_o q];show (if at0 p k<N/\at0 p ((l+r) / 2)<N then kev N lt (if lt (at0 p k) (at0 p ((l+r) / 2))=true then kas_place p k f l ((l+r) / 2) else _) else none)=_;rw [_d ⟨b1,b2⟩,_d c];exact e1
   ·have e:lt (at0 p ((l+r) / 2)) (at0 p k)=true:=by
     rw [tot _ _ b1 b2 (P.ne hk (by omega) (by omega))];simpa using c
    obtain ⟨m,e1,e2,e3,e4⟩:=z1y P hk ha f ((l+r) / 2+1) r (by omega) h2 (by omega) (fun i z1=>by
     by_cases z:i=(l+r) / 2;·subst z;exact e
     ·exact tr _ _ _ (ha _ _ (by omega) (by omega)) e) hr;refine ⟨m,?_,e2,e3,e4⟩;rw [kas_place,_o q];show (if at0 p k<N/\at0 p ((l+r) / 2)<N then kev N lt (if lt (at0 p k) (at0 p ((l+r) / 2))=true then _ else kas_place p k f ((l+r) / 2+1) r) else none)=_;rw [_d ⟨b1,b2⟩,_o c];exact e1
omit tot tr in
theorem zcQ {p:Array Nat} {k l i:Nat} (hk:k<p.size) (hl:l<=k) (hi:i<=k):at0 (bubble p k (k-l)) i=if i=l then at0 p k else if l<i then at0 p (i-1) else at0 p i:=by
 have e:=getElem?_bubble (xs:=p) (src:=k) hk (k-l) (by omega) i;simp only [at0,Array.getD_eq_getD_getElem?];rw [e];by_cases q:i=l;·rw [_d (by omega),_d q]
 ·rw [_o (by omega),_o q];by_cases q2:l<i;·rw [_d (by omega),_d q2]
  ·rw [_o (by omega),_o q2]
theorem z9v:∀ (f k:Nat)(p:Array Nat),PmN N p->k+f=N->Asc lt p k->∃ p',kev N lt (kas_bin f p k)=some p'/\PmN N p'/\Asc lt p' N
 | 0,k,p,P,hk,ha=>⟨p,rfl,P,by rw [<- hk];exact ha⟩ | f+1,k,p,P,hk,ha=>by
  obtain ⟨l,e1,e2,e3,e4⟩:=z1y tot tr P (k:=k) (by omega) ha k 0 k (_aj _) (_j _) (by omega) (fun i z=>absurd z (by omega)) (fun i z1 z2=>absurd z1 (by omega));have sz:=P.size;have P2:PmN N (bubble p k (k-l)):=P.of (bubble_perm _ _ _);have as2:Asc lt (bubble p k (k-l)) (k+1):=fun i j h1 h2=>by
   rw [zcQ (by omega) e2 (by omega),zcQ (by omega) e2 (by omega)];by_cases qi:i=l
   ·rw [_d qi,_o (by omega),_d (by omega)];exact e4 (j-1) (by omega) (by omega)
   ·rw [_o qi];by_cases qj:j=l
    ·rw [_d qj,_o (by omega)];exact e3 i (by omega)
    ·rw [_o qj];by_cases q1:l<i
     ·rw [_d q1,_d (by omega)];exact ha _ _ (by omega) (by omega)
     ·rw [_o q1];by_cases q2:l<j
      ·rw [_d q2];by_cases q3:j-1=i;·omega
       ·exact ha _ _ (by omega) (by omega)
      ·rw [_o q2];exact ha _ _ h1 (by omega)
  obtain ⟨p',g1,g2,g3⟩:=z9v f (k+1) _ P2 (by omega) as2;refine ⟨p',?_,g2,g3⟩;rw [kas_bin,jy,e1];exact g1
theorem zbC(hN:1<=N):∃ p,kev N lt (kas_sort N)=some p/\p.toList.Perm (List.range N)/\p.toList.Pairwise fun i j=>lt i j=true:=by
 have P:PmN N (List.toArray (List.range N)):=⟨by simp⟩;obtain ⟨m,p,e1,e2,e3,e4,e5⟩:=z9E tot tr P hN;have fin:∀ p:Array Nat,PmN N p->Asc lt p N->p.toList.Pairwise fun i j=>lt i j=true:=fun p P ha=>by
  rw [List.pairwise_iff_getElem];intro i j hi hj hij;have sz:=P.size;have hj':j<p.size:=by simpa using hj
  have:=ha i j hij (by omega);rw [at0,at0,Array.getD,Array.getD,dif_pos (by omega),dif_pos hj'] at this;simpa using this
 unfold kas_sort;rw [jy,e1];simp only [_G];by_cases q:m<N
 ·rw [_d q];have hm:max m 1=m:=by omega
  rw [hm];obtain ⟨p',g1,g2,g3⟩:=z9v tot tr (N-m) m p e2 (by omega) e3;exact ⟨p',g1,g2.pm,fin p' g2 g3⟩
 ·rw [_o q];have:m=N:=by omega
  subst this;exact ⟨p,rfl,e2.pm,fin p e2 e3⟩
end
end Dd
namespace Dd
open L2
end Dd
namespace L2
open Dd
end L2
namespace Dd
open L2
end Dd
namespace Pg
open L2 Dd
def yN:List (Str×Str):=[("next","by_next"),("least","by_least"),("all","by_all"),("turn","by_turn")]
@[simp] def z5Z:FS:=(wx (zbg (eIs "int" (zc 0)) (zhM (eIs "bool" (zc 0)))))
def ki:FS:=z5Z
def wk:Mir:=Mof ["thing"] 1 ki
@[simp] def z6a:FS:=(wx (zbg (eIs "tuple" (zc 0)) (z8j dLe dLe (eC (.int 2)) (ze xi (za (zc 0) zh)) (eC (.int 4)))))
def vK:FS:=z6a
def yr:Mir:=Mof ["thing"] 1 vK
@[simp] def z2N:FS:=(wx (eC (.bl false)))
@[simp] def z2S:FS:=(fIf (fOr (z2c (tOf (eIs "tuple" (zc 0)))) (tOf (eOp dNe (ze xi (za (zc 0) zh)) (zc 1)))) z2N xo)
@[simp] def jX:FS:=(wx (ze zbZ (za (zT (wU (zc 0)) [none] (vw 0) wS (ze wk (za (zc 0) zh))) zh)))
def uZ:FS:=(zy z2S jX)
def yo:Mir:=Mof ["thing","many"] 2 uZ
@[simp] def z9e:FS:=(wx (eC (.bl false)))
@[simp] def z9d:FS:=(fIf (fOr (z2c (tOf (ze yr (za (zc 0) zh)))) (z2c (tOf (ze yo (za (zc 0) (za (ze xi (za (zc 0) zh)) zh)))))) z9e xo)
@[simp] def z8F:FS:=(wx (zbg (eOp dGe (ze z2J (za (zc 0) zh)) (eC (.int 0))) (eOp dGt (ze wR (za (zc 0) zh)) (eC (.int 0)))))
def vG:FS:=(zy z9d z8F)
def zS:Mir:=Mof ["thing"] 1 vG
@[simp] def z52:FS:=fNo
@[simp] def z5B:FS:=(fIf (z2c (tOf (ze zS (za (zc 0) zh)))) z52 xo)
def z2a:FS:=z5B
def yC:Mir:=Mof ["thing"] 1 z2a
@[simp] def z4B:FS:=(fIf (z2c (tOf (ze zS (za (zc 0) zh)))) (z7V "NoLot") xo)
def z0y:FS:=z4B
def vx:Mir:=z1h ["thing"] 1 z0y
@[simp] def z4A:FS:=(vm (ze yC (za (zc 0) zh)))
@[simp] def kU:FS:=(wx (eOp dEq (ze xi (za (zT (wU (zc 0)) [none] (vw 0) (tOf (eOp dNe (zc 0) (eC (.int 0)))) (zc 0)) zh)) (eC (.int 1))))
def z0w:FS:=(zy z4A kU)
def yt:Mir:=Mof ["lot"] 1 z0w
@[simp] def wm:FS:=(xY 1 (zcD (zc 0) (ze wR (za (zc 0) zh))))
@[simp] def wr:FS:=(wx (wT (za (zc 1) (za (eOp vM (eOp vM (eSl (zc 0) yG (uu (zc 1))) (wT (za (eC (.int 0)) zh))) (eSl (zc 0) (uu (eOp vM (zc 1) (eC (.int 1)))) yG)) zh))))
def wD:FS:=(zy wm wr)
def zx:Mir:=Mof ["lot","at"] 1 wD
@[simp] def jf:FS:=(wx (zcD (zc 0) (ze z2J (za (zT (wU (zc 0)) [none] (vw 0) (tOf (eOp dNe (zc 0) (eC (.int 0)))) (zc 0)) zh))))
def jL:FS:=jf
def zY:Mir:=Mof ["lot"] 1 jL
@[simp] def z1P:FS:=(wx (zT (z2K (za (ze xi (za (zc 0) zh)) zh)) [some 1,none] (vw 1) (tOf (eOp dNe (zc 1) (zc 0))) (zc 1)))
def z39:FS:=z1P
def xV:Mir:=Mof ["lot","place"] 2 z39
@[simp] def z6U:FS:=(wx (zbg (eIs "str" (zc 0)) (z82 yN false (zc 0))))
def z3c:FS:=z6U
def yD:Mir:=Mof ["thing"] 1 z3c
@[simp] def z5r:FS:=(wx (eIf (tOf (eOp dEq (zc 0) (eC (.str "turn")))) (eOp vM (eSl (zc 1) (uu (eC (.int 1))) yG) (eSl (zc 1) yG (uu (eC (.int 1))))) (zc 1)))
def z8g:FS:=z5r
def jZ:Mir:=Mof ["rule","numbers"] 2 z8g
@[simp] def z78:FS:=(zcM (ze zx (za (zc 0) zh)) (wz 1 2))
@[simp] def z2f:FS:=(wx (wT (za (zcD (zc 2) (ze wR (za (zc 2) zh))) (za (jO (za (zc 1) zh)) zh))))
def z3f:FS:=(zy z78 z2f)
def wN:Mir:=Mof ["lot","greatest","others"] 1 z3f
@[simp] def z56:FS:=(zcM (ze zx (za (zc 0) zh)) (wz 1 2))
@[simp] def z5z:FS:=(wx (wT (za (ze zY (za (zc 2) zh)) (za (jO (za (zc 1) zh)) zh))))
def z29:FS:=(zy z56 z5z)
def wj:Mir:=Mof ["lot","greatest","others"] 1 z29
@[simp] def z8S:FS:=(xY 1 (ze zY (za (zc 0) zh)))
@[simp] def z8N:FS:=(wx (wT (za (zc 1) (za (ze xV (za (zc 0) (za (zc 1) zh))) zh))))
def z5V:FS:=(zy z8S z8N)
def vX:Mir:=Mof ["lot","by"] 1 z5V
@[simp] def z6B:FS:=(wx (wT (za (eC (.int 0)) (za (jO zh) zh))))
@[simp] def z6z:FS:=(fIf (tOf (eOp dEq (eOp dIx (zc 0) (eC (.int 0))) (eC (.int 0)))) z6B xo)
@[simp] def z7b:FS:=(wx (wT (za (eC (.int 0)) (za (ze xV (za (zc 0) (za (eC (.int 0)) zh))) zh))))
def z3q:FS:=(zy z6z z7b)
def wO:Mir:=Mof ["lot"] 1 z3q
@[simp] def z4j:FS:=fNo
@[simp] def z4n:FS:=(fIf (z2c (tOf (ze yD (za (zc 0) zh)))) z4j xo)
def z0S:FS:=z4n
def wb:Mir:=Mof ["thing"] 1 z0S
@[simp] def jS:FS:=(fIf (z2c (tOf (ze yD (za (zc 0) zh)))) (z7V "NoRule") xo)
def z06:FS:=jS
def zK:Mir:=z1h ["thing"] 1 z06
@[simp] def z5S:FS:=(xY 2 (zhH yN (zc 0)))
@[simp] def z0N:FS:=(zcM (z7H 2 [("by_next",wN),("by_least",wj),("by_all",vX),("by_turn",wO)] (za (zc 1) zh)) (wz 3 4))
@[simp] def z0X:FS:=(wx (wT (za (zc 3) (za (zT (z2K (za (ze xi (za (zc 1) zh)) zh)) [some 4,some 1,some 3,none] (vw 3) wS (eIf (tOf (eOp (z7o false) (zc 3) (zc 0))) (eOp z5t (eOp dIx (zc 1) (zc 3)) (eOp dIx (zc 1) (zc 2))) (eC (.int 0)))) zh))))
def z2D:FS:=(zy z5S (zy z0N z0X))
def wJ:Mir:=Mof ["rule","lot","deal","by","divided"] 2 z2D
@[simp] def qN:FS:=(vm (ze wb (za (zc 0) zh)))
@[simp] def qX:FS:=(vm (ze yC (za (zc 1) zh)))
def wZ:FS:=(zy qN qX)
def zB:Mir:=Mof ["rule","lot"] 2 wZ
@[simp] def xg:FS:=(vm (ze zK (za (zc 0) zh)))
@[simp] def wF:FS:=(vm (ze vx (za (zc 1) zh)))
def xy:FS:=(zy xg wF)
def zp:Mir:=z1h ["rule","lot"] 2 xy
@[simp] def z4H:FS:=(vm (ze zB (za (zc 0) (za (zc 1) zh))))
@[simp] def z3W:FS:=fNo
@[simp] def z4v:FS:=(fIf (tOf (ze yt (za (zc 1) zh))) z3W xo)
def z0Y:FS:=(zy z4H z4v)
def wc:Mir:=Mof ["rule","lot"] 2 z0Y
@[simp] def zbt:FS:=(vm (ze wc (za (zc 0) (za (zc 1) zh))))
@[simp] def zbw:FS:=(zcM (ze wJ (za (zc 0) (za (zc 1) zh))) (wz 2 3))
@[simp] def z8h:FS:=(xY 4 (ze vY (za (zT (zdz (za (zc 1) (za (zc 3) zh))) [some 1,some 2,none,none] (wz 2 3) wS (eOp z9B (zc 2) (eOp ve (zc 3) (eOp dIx (zc 0) (zc 1))))) zh)))
@[simp] def z7Q:FS:=(wx (ze jZ (za (zc 0) (za (zc 4) zh))))
def zax:FS:=(zy zbt (zy zbw (zy z8h z7Q)))
def M_step:Mir:=Mof ["rule","lot","by","quotients","left"] 2 zax
@[simp] def zdL:FS:=(vm (ze zB (za (zc 0) (za (zc 1) zh))))
@[simp] def z6Z:FS:=(xY 2 (zar (za (zc 1) zh)))
@[simp] def z3Z:FS:=(vm (zai (zc 2) (ze M_step (za (zc 0) (za (eOp dIx (zc 2) (z9a (eC (.int 1)))) zh)))))
@[simp] def z6P:FS:=(z2l (z2c (tOf (ze yt (za (eOp dIx (zc 2) (z9a (eC (.int 1)))) zh)))) z3Z)
@[simp] def z9j:FS:=(wx (zc 2))
def zdt:FS:=(zy zdL (zy z6Z (zy z6P z9j)))
def zbn:Mir:=Mof ["rule","lot","lots"] 2 zdt
@[simp] def z7J:FS:=(vm (ze zp (za (zc 0) (za (zc 1) zh))))
def zam:FS:=(zy z7J (zy (ur z6Z) (zy (ur z6P) (ur z9j))))
def X_run:Mir:=z1h ["rule","lot","lots"] 2 zam
@[simp] def vL:FS:=(wx (eOp z9B (ze xi (za (z46 (ze X_run (za (zc 0) (za (zc 1) zh)))) zh)) (eC (.int 1))))
def uk:FS:=vL
def zF:Mir:=z1h ["rule","lot"] 2 uk
@[simp] def z2Y:FS:=(xY 3 (eC (.int 0)))
@[simp] def z31:FS:=zdn
@[simp] def yq:FS:=(fIf (tOf (eOp dNe (ze uc (za (zc 4) zh)) (ze uc (za (zc 5) zh)))) z31 xo)
@[simp] def yY:FS:=(zfK 3 (eC (.int 1)))
@[simp] def z2R:FS:=(wx (zc 3))
@[simp] def z14:FS:=(wx (eOp dIx (zc 0) (zc 1)))
@[simp] def z1d:FS:=(fIf (tOf (eOp dLt (zc 1) (ze xi (za (zc 0) zh)))) z14 xo)
@[simp] def z15:FS:=(wx (eC (.int 0)))
def vI:FS:=(zy z1d z15)
def yT:Mir:=Mof ["_law_script","_law_k"] 2 vI
@[simp] def jU:FS:=(wx (eOp dEq (ze xi (za (zT (wU (zc 0)) [none] (vw 0) (tOf (eOp dGt (zc 0) (eC (.int 0)))) (zc 0)) zh)) (eC (.int 1))))
def z05:FS:=jU
def yJ:Mir:=Mof ["_law_lot_here"] 1 z05
@[simp] def z5I:FS:=(wx (zar (za (eOp z9B (zc 0) (eOp z7R (eC (.int 10)) (eC (.int 18)))) zh)))
@[simp] def z5T:FS:=(fIf (tOf (eOp dGe (zc 0) (eOp z7R (eC (.int 10)) (eC (.int 18))))) z5I xo)
@[simp] def z67:FS:=(xY 1 (eC (.int 0)))
@[simp] def z0L:FS:=(xY 3 (eOp zal (eOp ve (eOp vM (eOp vM (eOp zal (zc 0) (eC (.int 2147483629))) (eOp ve (eC (.int 7919)) (zc 2))) (eC (.int 1))) (eC (.int 48271))) (eC (.int 2147483647))))
@[simp] def z0A:FS:=(xY 3 (eOp zal (eOp vM (eOp vM (eOp ve (zc 3) (zc 3)) (eOp ve (eC (.int 69621)) (zc 2))) (eC (.int 7))) (eC (.int 2147483587))))
@[simp] def z0P:FS:=(xY 1 (eOp vM (eOp ve (zc 1) (eC (.int 2147483587))) (zc 3)))
@[simp] def z0K:FS:=(z9X (z2K (za (eC (.int 64)) zh)) (vw 2) (zy z0L (zy z0A z0P)))
@[simp] def z5P:FS:=(wx (zar (za (zc 1) zh)))
def km:FS:=(zy z5T (zy z67 (zy z0K z5P)))
def vy:Mir:=Mof ["_law_cell","_law_number","_law_j","_law_more"] 1 km
@[simp] def jN:FS:=(wx (jO (za (eC (.str "all")) (za (eC (.str "least")) (za (eC (.str "next")) (za (eC (.str "turn")) zh))))))
def kC:FS:=jN
def yx:Mir:=Mof [] 0 kC
@[simp] def qc:FS:=(xY 2 (ze xi (za (zc 1) zh)))
@[simp] def vh:FS:=(xY 3 (ze z1I (za (zT (z8n (za (zc 1) zh)) [none,none] (wz 0 1) (tOf (eOp dGt (zc 1) (eC (.int 0)))) (wT (za (zc 1) (za (zc 0) zh)))) zh)))
@[simp] def qe:FS:=(xY 4 (eOp dIx (zT (z2K (za (zc 2) zh)) [some 1,none] (vw 1) (tOf (eOp dEq (eOp dIx (zc 0) (zc 1)) (ze wR (za (zc 0) zh)))) (zc 1)) (eC (.int 0))))
@[simp] def uL:FS:=(xY 5 (zby "all" "turn" (eOp dIx (eOp dIx (zc 3) (eC (.int 0))) (eC (.int 1))) (eC (.int 0)) (zc 0)))
@[simp] def qA:FS:=(xY 5 (eOp dIx (zT (wU (zc 3)) [some 4,none,none] (wz 1 2) (tOf (eOp dNe (zc 2) (zc 0))) (zc 2)) (eC (.int 0))))
@[simp] def xE:FS:=(fIf (tOf (eOp dEq (zc 0) (eC (.str "least")))) qA xo)
@[simp] def uY:FS:=(xY 6 (ze wR (za (zT (wU (zc 3)) [some 4,none,none] (wz 1 2) (tOf (eOp dNe (zc 2) (zc 0))) (zc 1)) zh)))
@[simp] def qf:FS:=(xY 5 (eOp dIx (zT (z2K (za (zc 2) zh)) [some 6,some 4,some 1,none] (vw 3) (zbL (tOf (eOp dEq (eOp dIx (zc 2) (zc 3)) (zc 0))) (tOf (eOp dNe (zc 3) (zc 1)))) (zc 3)) (eC (.int 0))))
@[simp] def xH:FS:=(fIf (tOf (eOp dEq (zc 0) (eC (.str "next")))) (zy uY qf) xo)
@[simp] def wM:FS:=(xY 7 (zT (z2K (za (zc 2) zh)) [some 5,none] (vw 1) (tOf (eOp dNe (zc 1) (zc 0))) (zc 1)))
@[simp] def jT:FS:=(xY 7 (jO (za (zc 4) zh)))
@[simp] def xc:FS:=(fIf (tOf (eOp (z7o false) (zc 0) (wT (za (eC (.str "next")) (za (eC (.str "least")) zh))))) jT xo)
@[simp] def yZ:FS:=(xY 8 (eOp z9n (zar (za (eC (.int 0)) zh)) (zc 2)))
@[simp] def jV:FS:=(z2U (zc 8) (zc 9) (eOp z5t (eOp dIx (zc 1) (zc 9)) (eOp dIx (zc 1) (zc 5))))
@[simp] def yS:FS:=(fIf (tOf (eOp dGt (eOp dIx (zc 1) (zc 5)) (eC (.int 0)))) jV xo)
@[simp] def xf:FS:=(z9X (wU (zc 7)) (vw 9) yS)
@[simp] def yU:FS:=(xY 10 (zT (z8n (za (zc 1) zh)) [some 8,some 1,some 5,none,none] (wz 3 4) wS (eOp z9B (zc 4) (eOp ve (eOp dIx (zc 0) (zc 3)) (eOp dIx (zc 1) (zc 2))))))
@[simp] def xa:FS:=(xY 11 (zar zh))
@[simp] def xR:FS:=(xY 12 (kL (z2K (za (zc 2) zh)) [some 9,none] (vw 1) wS (ze zbf (za (eOp dEq (zc 0) (zc 1)) zh))))
@[simp] def xW:FS:=(z2U (zc 12) (zc 5) (eOp vM (eOp dIx (zc 12) (zc 5)) (eOp dIx (zc 8) (zc 9))))
@[simp] def jW:FS:=(xY 12 (eOp vM (eSl (zc 12) (uu (eC (.int 1))) yG) (eSl (zc 12) yG (uu (eC (.int 1))))))
@[simp] def yz:FS:=(fIf (tOf (eOp dEq (zc 0) (eC (.str "turn")))) jW xo)
@[simp] def xX:FS:=(vm (zai (zc 11) (ze vY (za (zc 12) zh))))
@[simp] def yW:FS:=(z9X (z2K (za (zc 2) zh)) (vw 9) (zy xR (zy xW (zy yz xX))))
@[simp] def jP:FS:=(xY 10 (eOp vM (eSl (zc 10) (uu (eC (.int 1))) yG) (eSl (zc 10) yG (uu (eC (.int 1))))))
@[simp] def yp:FS:=(fIf (tOf (eOp dEq (zc 0) (eC (.str "turn")))) jP xo)
@[simp] def xb:FS:=(wx (wT (za (ze vY (za (zc 10) zh)) (za (ze vY (za (zc 11) zh)) zh))))
def z0W:FS:=(zy qc (zy vh (zy qe (zy uL (zy xE (zy xH (zy wM (zy xc (zy yZ (zy xf (zy yU (zy xa (zy yW (zy yp xb))))))))))))))
def xZ:Mir:=z95 (Mof ["_law_rule","_law_lot_here","_law_size","_law_order","_law_top","_law_by","_law_most","_law_some","_law_quotients","_law_place","_law_later","_law_lines","_law_line"] 2 z0W)
@[simp] def z4I:FS:=(xY 2 (eOp zal (eOp dIx (zc 0) (eC (.int 0))) (zc 1)))
@[simp] def z3R:FS:=(z2U (zc 0) (eC (.int 0)) (eOp z5t (eOp dIx (zc 0) (eC (.int 0))) (zc 1)))
@[simp] def z3T:FS:=(wx (zc 2))
def z0Q:FS:=(zy z4I (zy z3R z3T))
def zm:Mir:=Mof ["_law_pot_here","_law_far","_law_found"] 2 z0Q
@[simp] def z2W:FS:=(wx (zbg (eIs "int" (zc 0)) (zhM (eIs "bool" (zc 0)))))
def kQ:FS:=z2W
def yK:Mir:=Mof ["_law_thing"] 1 kQ
@[simp] def z1U:FS:=(wx (eC (.bl false)))
@[simp] def jj:FS:=(fIf (fOr (z2c (tOf (eIs "tuple" (zc 0)))) (tOf (eOp (z7o true) (ze xi (za (zc 0) zh)) (wT (za (eC (.int 2)) (za (eC (.int 3)) (za (eC (.int 4)) zh))))))) z1U xo)
@[simp] def z2o:FS:=(wx (eC (.bl false)))
@[simp] def xA:FS:=(fIf (fOr (z2c (tOf (ze yK (za (zc 1) zh)))) (tOf (eOp dLt (zc 1) (eC (.int 0))))) z2o xo)
@[simp] def xt:FS:=(z9X (wU (zc 0)) (vw 1) xA)
@[simp] def wy:FS:=(wx (eOp dGt (ze wR (za (zc 0) zh)) (eC (.int 0))))
def wL:FS:=(zy jj (zy xt wy))
def zZ:Mir:=Mof ["_law_thing","_law_number"] 1 wL
@[simp] def jn:FS:=(xY 1 (eOp vM (eC (.int 2)) (ze zm (za (zc 0) (za (eC (.int 3)) zh)))))
@[simp] def ji:FS:=(xY 2 (eOp dIx (jO (za (eC (.int 13)) (za (eC (.int 1000)) (za (eOp z7R (eC (.int 10)) (eC (.int 6))) (za (eOp z7R (eC (.int 10)) (eC (.int 30))) (za (eC (.int 3)) (za (eC (.int 60)) zh))))))) (ze zm (za (zc 0) (za (eC (.int 6)) zh)))))
@[simp] def jd:FS:=(xY 3 (ze zm (za (zc 0) (za (eC (.int 4)) zh))))
@[simp] def jk:FS:=(xY 4 (zar zh))
@[simp] def vV:FS:=(xY 6 (eOp vM (ze zm (za (zc 0) (za (zc 2) zh))) (eC (.int 1))))
@[simp] def ui:FS:=(vm (zai (zc 4) (eOp ve (zc 6) (ze zbf (za (eOp dGe (ze zm (za (zc 0) (za (eC (.int 4)) zh))) (zc 3)) zh)))))
@[simp] def qV:FS:=(z9X (z2K (za (zc 1) zh)) (vw 5) (zy vV ui))
@[simp] def z0s:FS:=(z2U (zc 4) (ze zm (za (zc 0) (za (zc 1) zh))) (eOp vM (eC (.int 1)) (ze zm (za (zc 0) (za (zc 2) zh)))))
@[simp] def ua:FS:=(fIf (tOf (eOp dEq (ze wR (za (zc 4) zh)) (eC (.int 0)))) z0s xo)
@[simp] def qr:FS:=(xY 7 (eOp vM (eC (.int 1)) (ze zm (za (zc 0) (za (eC (.int 12)) zh)))))
@[simp] def kF:FS:=(z2U (zc 4) (ze zm (za (zc 0) (za (zc 1) zh))) (eOp dIx (zc 4) (ze zm (za (zc 0) (za (zc 1) zh)))))
@[simp] def vt:FS:=(fIf (tOf (eOp dEq (ze zm (za (zc 0) (za (eC (.int 3)) zh))) (eC (.int 0)))) kF xo)
@[simp] def kG:FS:=(z2U (zc 4) (eC (.int 0)) (eC (.int 1)))
@[simp] def vj:FS:=(fIf (tOf (eOp dEq (ze wR (za (zc 4) zh)) (eC (.int 0)))) kG xo)
@[simp] def z03:FS:=(wx (ze vY (za (zT (wU (zc 4)) [some 7,none] (vw 1) wS (eOp ve (zc 1) (zc 0))) zh)))
def z1W:FS:=(zy jn (zy ji (zy jd (zy jk (zy qV (zy ua (zy qr (zy vt (zy vj z03)))))))))
def uI:Mir:=z95 (Mof ["_law_pot_here","_law_size","_law_far","_law_thin","_law_numbers","_law_place","_law_number","_law_more"] 1 z1W)
@[simp] def qE:FS:=(xY 2 (jO (za (zdy (zc 1)) (za (eOp zcF (zc 1) (eC (.str " "))) (za (zjC (zc 1) (uu (eC (.int 1)))) (za (eOp zcF (zc 1) (eC (.str "s"))) (za (eC (.str "")) (za (eC .non) (za (eC (.int 3)) (za (wT (za (zc 1) zh)) (za (jO (za (zc 1) zh)) (za (eC (.bl true)) (za (eC .dct) zh)))))))))))))
@[simp] def qJ:FS:=(wx (eOp dIx (zc 2) (ze zm (za (zc 0) (za (eC (.int 11)) zh)))))
def qQ:FS:=(zy qE qJ)
def xS:Mir:=Mof ["_law_pot_here","_law_rule","_law_some"] 2 qQ
@[simp] def z0G:FS:=(xY 1 (jO (za (eC .non) (za (eC (.bl true)) (za (eC (.bl false)) (za (z9a (eC (.int 1))) (za (eC (.int 0)) (za (eC (.int 7)) (za (eOp z7R (eC (.int 10)) (eC (.int 30))) (za (eC (.str "")) (za (eC (.str "1:0")) (za (wT zh) (za (wT (za (eC (.int 0)) (za (eC (.int 0)) zh))) (za (wT (za (eC (.int 1)) zh)) (za (jO (za (eC (.int 1)) (za (eC (.int 0)) zh))) (za (eC .dct) zh))))))))))))))))
@[simp] def z0t:FS:=(wx (eOp dIx (eOp vM (zc 1) (jO (za (wT (za (wT (za (eC (.int 1)) (za (eC (.int 0)) zh))) (za (wT (za (eC (.int 0)) (za (eC (.int 1)) zh))) zh))) (za (wT (za (eC (.bl true)) (za (eC (.int 2)) zh))) zh)))) (ze zm (za (zc 0) (za (eC (.int 16)) zh)))))
def z2q:FS:=(zy z0G z0t)
def uz:Mir:=Mof ["_law_pot_here","_law_some"] 1 z2q
@[simp] def qO:FS:=(xY 2 (zar (za (zc 1) zh)))
@[simp] def qY:FS:=(xY 3 (zar zh))
@[simp] def uf:FS:=(zcM (ze xZ (za (zc 0) (za (eOp dIx (zc 2) (z9a (eC (.int 1)))) zh))) (wz 4 5))
@[simp] def vR:FS:=(vm (zai (zc 2) (zc 4)))
@[simp] def ue:FS:=(vm (zai (zc 3) (zc 5)))
@[simp] def jr:FS:=(z2l (z2c (tOf (ze yJ (za (eOp dIx (zc 2) (z9a (eC (.int 1)))) zh)))) (zy uf (zy vR ue)))
@[simp] def z10:FS:=(wx (wT (za (zc 2) (za (zc 3) zh))))
def z2g:FS:=(zy qO (zy qY (zy jr z10)))
def zL:Mir:=Mof ["_law_rule","_law_lot_here","_law_lots","_law_tables","_law_later","_law_table"] 2 z2g
@[simp] def z3X (Mr:Mir):FS:=(wx (eC (.bl false)))
@[simp] def z08 (Mr:Mir):FS:=(fIf (fOr (tOf (eOp dNe (eIs "list" (zc 1)) (eIs "list" (zc 0)))) (tOf (eOp dNe (eIs "tuple" (zc 1)) (eIs "tuple" (zc 0))))) (z3X Mr) xo)
@[simp] def qd (Mr:Mir):FS:=(wx (zbg (eOp dEq (ze xi (za (zc 0) zh)) (ze xi (za (zc 1) zh))) (ze zbZ (za (zT (zdz (za (zc 0) (za (zc 1) zh))) [none,none] (wz 0 1) wS (ze Mr (za (zc 0) (za (zc 1) zh)))) zh))))
@[simp] def uT (Mr:Mir):FS:=(fIf (tOf (zfA "list" "tuple" (zc 1))) (zy (z08 Mr) (qd Mr)) xo)
@[simp] def z4F (Mr:Mir):FS:=(wx (zbg (eOp dEq (zc 0) (zc 1)) (eOp dEq (eIs "bool" (zc 0)) (eIs "bool" (zc 1)))))
@[simp] def z4C (Mr:Mir):FS:=(fIf (fOr (tOf (eOp dIs (zc 1) (eC .non))) (fOr (tOf (eIs "bool" (zc 1))) (tOf (eIs "str" (zc 1))))) (z4F Mr) xo)
@[simp] def z48 (Mr:Mir):FS:=(wx (zbg (ze yK (za (zc 0) zh)) (eOp dEq (zc 0) (zc 1))))
def ug(Mr:Mir):FS:=(zy (uT Mr) (zy (z4C Mr) (z48 Mr)))
def zJ:Nat->Mir
 | 0=>fun _ _=>.no | k+1=>Mof ["_law_found","_law_due"] 2 (ug (zJ k))
def yM:Mir:=zJ 5
@[simp] def qq:FS:=(xY 2 (ze zm (za (zc 0) (za (ze xi (za (zc 1) zh)) zh))))
@[simp] def qD:FS:=(xY 3 (jO (za (eOp vM (eOp dIx (zc 1) (zc 2)) (eC (.int 1))) (za (eOp z9B (eOp dIx (zc 1) (zc 2)) (eC (.int 1))) (za (eOp z9B (eC (.int 0)) (eOp dIx (zc 1) (zc 2))) (za (eC (.int 0)) (za (eC (.bl true)) (za (eC .non) (za (eC (.str "1")) (za (wT (za (eC (.int 1)) zh)) (za (eOp z7R (eC (.int 10)) (eC (.int 30))) (za (eOp dIx (zc 1) (eOp z9B (zc 2) (eC (.int 1)))) zh))))))))))))
@[simp] def uX:FS:=(xY 3 (eOp dIx (zc 3) (ze zm (za (zc 0) (za (eC (.int 10)) zh)))))
@[simp] def uV:FS:=(xY 4 (jO (za (eOp vM (eOp vM (eSl (zc 1) yG (uu (zc 2))) (wT (za (zc 3) zh))) (eSl (zc 1) (uu (eOp vM (zc 2) (eC (.int 1)))) yG)) (za (eOp vM (eOp vM (eSl (zc 1) yG (uu (zc 2))) (wT (za (zc 3) zh))) (eSl (zc 1) (uu (eOp vM (zc 2) (eC (.int 1)))) yG)) (za (eOp vM (eSl (zc 1) yG (uu (zc 2))) (eSl (zc 1) (uu (eOp vM (zc 2) (eC (.int 1)))) yG)) (za (ze z98 (za (zc 1) zh)) zh))))))
@[simp] def vo:FS:=(xY 4 (eOp vM (zc 4) (jO (za (eOp vM (eOp vM (eSl (zc 1) yG (uu (zc 2))) (wT (za (eC (.int 0)) zh))) (eSl (zc 1) (uu (zc 2)) yG)) (za (zfC (zc 1)) (za (eOp vM (zc 1) (zc 1)) (za (eOp z8x (wT (za (eC (.int 0)) zh)) (ze xi (za (zc 1) zh))) (za (ze uz (za (zc 0) zh)) (za (wT (za (zc 1) zh)) zh)))))))))
@[simp] def kJ:FS:=(wx (eOp dIx (zc 4) (ze zm (za (zc 0) (za (eC (.int 10)) zh)))))
def z0M:FS:=(zy qq (zy qD (zy uX (zy uV (zy vo kJ)))))
def vE:Mir:=Mof ["_law_pot_here","_law_row","_law_at","_law_odd_here","_law_some"] 2 z0M
end Pg
namespace Dd
open L2
end Dd
namespace L2
open Dd Zz
end L2
namespace Dd
open L2
end Dd
set_option maxRecDepth 1000000
set_option maxHeartbeats 4000000
namespace Pm
abbrev Tb:=List (List Int)
def one(n:Nat):Tb:=(List.range n).map fun i=>(List.range n).map fun j=>if i=j then 1 else 0
end Pm
set_option maxRecDepth 1000000
set_option maxHeartbeats 40000000
namespace Pm
end Pm
set_option maxRecDepth 1000000
set_option maxHeartbeats 40000000
namespace Pm
abbrev Sz(n:Nat):Prop:=n=2\/n=3\/n=4
open L2 (maxL minL maxL_ge maxL_mem minL_le minL_mem)
inductive Rl where | nx | le | al | tu deriving DecidableEq
structure Lot(n:Nat)(v:List Int):Prop where
 sz:Sz n
 len:v.length=n
 nn:∀ x∈v,0<=x
 pos:∃ x∈v,0<x
def nz(v:List Int):List Int:=v.filter fun x=>decide (x≠0)
def ended(v:List Int):Bool:=decide ((nz v).length=1)
def gp(v:List Int):Nat:=v.idxOf (maxL v)
def others(v:List Int):List Int:=v.take (gp v)++[0]++v.drop (gp v+1)
def lp(v:List Int):Nat:=v.idxOf (minL (nz v))
def xN(v:List Int)(p:Nat):List Nat:=(List.range v.length).filter fun i=>decide (i≠p)
def deal:Rl->List Int->Nat×List Nat
 | .nx,v=>((others v).idxOf (maxL (others v)),[gp v]) | .le,v=>(lp (others v),[gp v]) | .al,v=>(lp v,xN v (lp v)) | .tu,v=>(0,if v.getD 0 0=0 then [] else xN v 0)
def yy(v:List Int)(d:Nat×List Nat):List Int:=(List.range v.length).map fun i=>if i∈d.2 then v.getD i 0 / v.getD d.1 0 else 0
def rot{α:Type}(xs:List α):List α:=xs.drop 1++xs.take 1
def mvd{α:Type}(r:Rl)(xs:List α):List α:=if r=.tu then rot xs else xs
def left(v qs:List Int)(b:Nat):List Int:=List.zipWith (fun x q=>x-q*v.getD b 0) v qs
def stp(r:Rl)(v:List Int):List Int:=mvd r (left v (yy v (deal r v)) (deal r v).1)
def z1b(b:Nat)(line:List Int)(q:Int):List Int:=line.take b++[line.getD b 0+q]++line.drop (b+1)
def zfu(r:Rl)(b:Nat)(qs:List Int):Tb:=List.zipWith (fun line q=>mvd r (z1b b line q)) (one qs.length) qs
def z74(r:Rl)(v:List Int):Tb:=zfu r (deal r v).1 (yy v (deal r v))
theorem zaz{α:Type}{x:α}{xs:List α}:x∈rot xs ↔ x∈xs:=by cases xs with
 | nil=>simp [rot] | cons a xs=>simp [rot,or_comm]
theorem z6K{α:Type}{x:α}{xs:List α}{l:Rl}:x∈mvd l xs ↔ x∈xs:=by
 unfold mvd;split;·exact zaz
 ·rfl
theorem zdX{α:Type}(xs:List α):(rot xs).length=xs.length:=by cases xs<;>simp [rot]
theorem zfq{α:Type}{l:Rl}(xs:List α):(mvd l xs).length=xs.length:=by
 unfold mvd;split;·exact zdX xs
 ·rfl
structure Qs(v:List Int)(b:Nat)(qs:List Int):Prop where
 lt:b<v.length
 len:qs.length=v.length
 zero:qs[b]? = some 0
 nn:∀ q∈qs,0<=q
 fit:∀ i,0<=v.getD i 0-qs.getD i 0*v.getD b 0
 pos:(∀ q∈qs,q=0)\/0<v.getD b 0
theorem zcp{α:Type}{v:List α}{b:Nat}(h:b<v.length):∃ v1 z v2,v=v1++z::v2/\v1.length=b:= ⟨v.take b,v[b],v.drop (b+1),by rw [<- _av h,List.take_append_drop],by simp;omega⟩
theorem getD_at{α:Type}{v1 v2:List α}{z d:α}{b:Nat}(h:v1.length=b):(v1++z::v2).getD b d=z:=by
 subst h;simp [List.getD]
theorem vf{v qs:List Int}{b:Nat}(h:qs.length=v.length):(left v qs b).length=v.length:=by simp [left,h]
theorem zei{v qs:List Int}{b:Nat}(h:Qs v b qs):∀ x∈left v qs b,0<=x:=fun x hx=>by
 obtain ⟨i,hi,e⟩:=_E.mp hx;have:=h.fit i;have hl:=vf (b:=b) h.len;have h1:i<v.length:=by omega
 have h2:i<qs.length:=by rw [h.len];exact h1
 simp only [List.getD,_f h1,_f h2,_aH] at this;rw [<- e];simpa [left,List.getD] using this
theorem z4W{α:Type}(xs:List α):mvd .tu xs=rot xs:=by simp [mvd]
theorem z3k{α:Type}{r:Rl}(h:r≠.tu)(xs:List α):mvd r xs=xs:=by simp [mvd,h]
theorem uE{v:List Int}{x:Int}:x∈nz v ↔ x∈v/\x≠0:=by simp [nz]
theorem getD_mem{v:List Int}{i:Nat}(h:i<v.length):v.getD i 0∈v:=by simp [List.getD,_f h]
theorem wu{v:List Int}(h:∀ x∈v,0<=x)(i:Nat):0<=v.getD i 0:=by
 by_cases hi:i<v.length;·exact h _ (getD_mem hi)
 ·simp [List.getD,_al (_ck.mp hi)]
theorem z5w{v:List Int}{x:Int}(h:x∈v):v.idxOf x<v.length/\v.getD (v.idxOf x) 0=x:=by
 have hl:=List.idxOf_lt_length_of_mem h;exact ⟨hl,by simp [List.getD,_f hl,_cj hl]⟩
theorem Lot.ne{n:Nat}{v:List Int}(h:Lot n v):v≠[]:=fun z=>by
 obtain ⟨x,hx,_⟩:=h.pos;rw [z] at hx;simp at hx
theorem Lot.nzne{n:Nat}{v:List Int}(h:Lot n v):nz v≠[]:=fun z=>by
 obtain ⟨x,hx,h0⟩:=h.pos;have:x∈nz v:=uE.mpr ⟨hx,by omega⟩;rw [z] at this;simp at this
theorem z6G{v:List Int}(h:nz v≠[]):lp v<v.length/\v.getD (lp v) 0=minL (nz v)/\minL (nz v)≠0:=by
 have m:=uE.mp (minL_mem h);have:=z5w m.1;exact ⟨this.1,this.2,m.2⟩
theorem z6J{v:List Int}(h:v≠[]):gp v<v.length/\v.getD (gp v) 0=maxL v:=z5w (maxL_mem h)
theorem others_eq{v:List Int}(h:v≠[]):others v=v.set (gp v) 0:=by
 have:=(z6J h).1;unfold others;rw [_bA,_d this];simp
theorem wK{v:List Int}(h:v≠[])(i:Nat):(others v).getD i 0=if i=gp v then 0 else v.getD i 0:=by
 have hg:=(z6J h).1;rw [others_eq h];by_cases e:i=gp v
 ·subst e;simp [List.getD,hg]
 ·simp [List.getD,e,_K (_aE e)]
theorem xF{v:List Int}(h:v≠[]):(others v).length=v.length:=by rw [others_eq h];simp
theorem zaB:∀ {v:List Int}{p:Nat},(nz v).length≠1->v.getD p 0≠0->∃ j,j≠p/\j<v.length/\v.getD j 0≠0:=by
 intro v p he hp;have hpl:p<v.length:=by
  apply _ah;intro z;exact hp (by simp [List.getD,_al (_ck.mp z)])
 apply _ah;intro hn;apply he;obtain ⟨v1,z,v2,rfl,e1⟩:=zcp hpl;rw [getD_at e1] at hp;have f1:∀ x∈v1,x=0:=fun x hx=>by
  obtain ⟨j,hj,rfl⟩:=_E.mp hx;apply _ah;intro z0;exact hn ⟨j,by omega,by simp;omega,by simpa [List.getD,_v hj,_f hj] using z0⟩
 have f2:∀ x∈v2,x=0:=fun x hx=>by
  obtain ⟨j,hj,rfl⟩:=_E.mp hx;apply _ah;intro z0;refine hn ⟨v1.length+1+j,by omega,by simp;omega,?_⟩;have:(v1++z::v2)[v1.length+1+j]? = some v2[j]:=by rw [_aJ (by omega),show v1.length+1+j-v1.length=j+1 by omega,_h,_f hj]
  rw [List.getD,this];simpa using z0
 have g1:v1.filter (fun x=>decide (x≠0))=[]:=List.filter_eq_nil_iff.mpr fun x hx=>by simp [f1 x hx]
 have g2:v2.filter (fun x=>decide (x≠0))=[]:=List.filter_eq_nil_iff.mpr fun x hx=>by simp [f2 x hx]
 simp only [nz,List.filter_append,_cT,g1,g2];simp [hp]
theorem z3D{v:List Int}(he:ended v=false):(nz v).length≠1:=by simpa [ended] using he
structure Dl(v:List Int)(b:Nat)(dv:List Nat):Prop where
 lt:b<v.length
 nb:b∉dv
 pos:dv=[]\/0<v.getD b 0
theorem wH{v:List Int}{p i:Nat}:i∈xN v p ↔ i<v.length/\i≠p:=by simp [xN]
theorem z6o{n:Nat}{v:List Int}(h:Lot n v){b:Nat}(hb:b<v.length)(h0:(others v).getD b 0≠0):Dl v b [gp v]/\0<v.getD b 0/\v.getD b 0<=v.getD (gp v) 0:=by
 have hg:=z6J h.ne;rw [wK h.ne] at h0;have ne:b≠gp v:=fun e=>by rw [_d e] at h0;exact h0 rfl
 rw [_o ne] at h0;have p0:0<v.getD b 0:=by have:=wu h.nn b;omega
 refine ⟨⟨hb,by simpa using ne,.inr p0⟩,p0,?_⟩;rw [hg.2];exact maxL_ge _ (getD_mem hb)
theorem uF {n:Nat} {v:List Int} (h:Lot n v) (he:ended v=false):nz (others v)≠[]:=by
 have hg:=z6J h.ne;have mx:0<maxL v:=by
  obtain ⟨x,hx,h0⟩:=h.pos;have:=maxL_ge (xs:=v) x hx;omega
 obtain ⟨j,h1,h2,h3⟩:=zaB (p:=gp v) (z3D he) (by rw [hg.2];omega);intro z;have:v.getD j 0∈nz (others v):=uE.mpr ⟨by
  have:=getD_mem (v:=others v) (i:=j) (by rw [xF h.ne];exact h2);rw [wK h.ne,_o h1] at this;exact this,h3⟩;rw [z] at this;simp at this
theorem kg{n:Nat}{v:List Int}(r:Rl)(h:Lot n v)(he:ended v=false):Dl v (deal r v).1 (deal r v).2:=by cases r with
 | nx=>
  have ne:others v≠[]:=fun z=>by
   have:=xF h.ne;rw [z] at this;exact h.ne (_aD.mp this.symm)
  have a:=z5w (maxL_mem ne);have nn:=uF h he;refine (z6o h (by rw [<- xF h.ne];exact a.1) ?_).1;show (others v).getD ((others v).idxOf (maxL (others v))) 0≠0;rw [a.2];have m:=uE.mp (minL_mem nn);have m1:=maxL_ge _ m.1;have m2:0<=minL (nz (others v)):=by
   obtain ⟨i,hi,e⟩:=_E.mp m.1;have:=wK h.ne i;have e2:(others v).getD i 0=minL (nz (others v)):=by simp [List.getD,_f hi,e]
   rw [e2] at this;rw [this];split;·omega
   ·exact wu h.nn i
  omega | le=>
  have a:=z6G (uF h he);refine (z6o h (by rw [<- xF h.ne];exact a.1) ?_).1;show (others v).getD (lp (others v)) 0≠0;rw [a.2.1];exact a.2.2 | al=>
  have a:=z6G h.nzne;refine ⟨a.1,by simp [deal,wH],.inr ?_⟩;show 0<v.getD (lp v) 0;have:=wu h.nn (lp v);have b:=a.2.1;have c:=a.2.2;omega | tu=>
  have l0:0<v.length:=by have:=h.sz;rw [h.len];omega
  refine ⟨l0,?_,?_⟩
  ·show 0∉(if v.getD 0 0=0 then [] else xN v 0);split<;>simp [wH]
  ·show (if v.getD 0 0=0 then [] else xN v 0)=[]\/0<v.getD 0 0;split;·exact .inl rfl
   ·have:=wu h.nn 0;exact .inr (by omega)
theorem xT(v:List Int)(d:Nat×List Nat):(yy v d).length=v.length:=by simp [yy]
theorem z8R(v:List Int)(d:Nat×List Nat)(i:Nat):(yy v d).getD i 0=if i<v.length/\i∈d.2 then v.getD i 0 / v.getD d.1 0 else 0:=by
 unfold yy;by_cases hi:i<v.length;·simp [List.getD,hi]
 ·simp [List.getD,hi]
theorem qa{v:List Int}{d:Nat×List Nat}(i:Nat):v.getD i 0-(yy v d).getD i 0*v.getD d.1 0=if i<v.length/\i∈d.2 then v.getD i 0 % v.getD d.1 0 else v.getD i 0:=by
 rw [z8R];split
 ·have:=_bK (v.getD i 0) (v.getD d.1 0);have e:=Int.mul_comm (v.getD i 0 / v.getD d.1 0) (v.getD d.1 0);omega
 ·omega
theorem zeW{v:List Int}{d:Nat×List Nat}(hv:∀ x∈v,0<=x)(h:Dl v d.1 d.2):Qs v d.1 (yy v d):=by
 refine ⟨h.lt,xT _ _,?_,fun q hq=>?_,fun i=>?_,?_⟩;·simp [yy,h.lt,h.nb]
 ·obtain ⟨i,hi,rfl⟩:=_E.mp hq;simp only [yy,List.getElem_map,List.getElem_range];split;·exact Int.ediv_nonneg (wu hv _) (wu hv _)
  ·omega
 ·rw [qa];split
  ·rename_i hi;rcases h.pos with z | z;·rw [z] at hi;simp at hi
   ·exact _aP _ (by omega)
  ·exact wu hv i
 ·rcases h.pos with z | z
  ·refine .inl fun q hq=>?_;obtain ⟨i,hi,rfl⟩:=_E.mp hq;simp [yy,z]
  ·exact .inr z
def bl(n:Nat):Nat:=if n=0 then 0 else bl (n / 2)+1
termination_by n
decreasing_by omega
theorem z6p:bl 0=0:=by rw [bl];simp
theorem z7y{n:Nat}(h:n≠0):bl n=bl (n / 2)+1:=by rw [bl,_o h]
theorem za3:∀ (b a:Nat),a<=b->bl a<=bl b:=by
 intro b;induction b using Nat.strongRecOn with | ind b ih=>
  intro a h;by_cases h0:a=0;·subst h0;rw [z6p];omega
  ·rw [z7y h0,z7y (show b≠0 by omega)];have:=ih (b / 2) (by omega) (a / 2) (by omega);omega
theorem zeK{a b:Nat}(h:2*a<b):bl a<bl b:=by
 rw [z7y (show b≠0 by omega)];have:=za3 (b / 2) a (by omega);omega
theorem zfJ:∀ (k n:Nat),n<2 ^ k->bl n<=k
 | 0,n,h=>by simp at h;subst h;rw [z6p];omega | k+1,n,h=>by
  by_cases h0:n=0;·subst h0;rw [z6p];omega
  ·rw [z7y h0];have:=zfJ k (n / 2) (by rw [Nat.pow_succ] at h;omega);omega
def wt(v:List Int):Nat:=(v.map fun x=>bl x.toNat).sum
theorem zfU:∀ {u v:List Int},u.length=v.length->(∀ i,bl (u.getD i 0).toNat<=bl (v.getD i 0).toNat)->wt u<=wt v/\((∃ i,bl (u.getD i 0).toNat<bl (v.getD i 0).toNat)->wt u<wt v)
 | [],[],_,_=>⟨by simp,fun ⟨i,h⟩=>by simp at h⟩ | a::u,b::v,hl,h=>by
  have ih:=zfU (u:=u) (v:=v) (by simpa using hl) fun i=>by simpa using h (i+1)
  have h0:bl a.toNat<=bl b.toNat:=by simpa using h 0
  simp only [wt,_w,List.sum_cons] at ih ⊢;refine ⟨by omega,fun ⟨i,hi⟩=>?_⟩;cases i with
  | zero=>
   have:bl a.toNat<bl b.toNat:=by simpa using hi
   omega | succ i=>
   have:=ih.2 ⟨i,by simpa using hi⟩;omega
 | [],_::_,h,_=>by simp at h | _::_,[],h,_=>by simp at h
theorem uG{v qs:List Int}{b:Nat}(h:qs.length=v.length)(i:Nat):(left v qs b).getD i 0=v.getD i 0-qs.getD i 0*v.getD b 0:=by
 unfold left;by_cases hi:i<v.length
 ·have h2:i<qs.length:=by omega
  simp [List.getD,List.getElem?_zipWith,_f hi,_f h2]
 ·have h2:¬ i<qs.length:=by omega
  simp [List.getD,List.getElem?_zipWith,_al (_ck.mp hi),_al (_ck.mp h2)]
theorem z42{u v:List Int}(hl:u.length=v.length)(h:∀ i,u.getD i 0=v.getD i 0):u=v:=by
 refine _aI hl fun i h1 h2=>?_;have:=h i;simpa [List.getD,_f h1,_f h2] using this
theorem zcA{a b:Int}(h0:0<b)(h:b<=a):2*(a % b)<a:=by
 have h1:=_bK a b;have h2:=_a6 a h0;have h3:=_aP a (show b≠0 by omega);have h4:1<=a / b:=by
  have:=Int.ediv_le_ediv h0 h;rwa [Int.ediv_self (by omega)] at this
 have h5:b*1<=b*(a / b):=Int.mul_le_mul_of_nonneg_left h4 (by omega);omega
theorem z9w{a b:Int}(ha:0<=a)(h0:0<b):a % b<=a:=by
 have h1:=_bK a b;have h2:0<=a / b:=Int.ediv_nonneg ha (by omega);have h3:0<=b*(a / b):=Int.mul_nonneg (by omega) h2;omega
theorem zf8 {v:List Int} {d:Nat×List Nat} (hv:∀ x∈v,0<=x) (h:Dl v d.1 d.2):wt (left v (yy v d) d.1)<=wt v/\((∃ i,i<v.length/\i∈d.2/\v.getD d.1 0<=v.getD i 0)->wt (left v (yy v d) d.1)<wt v):=by
 have hl:=xT v d;have key:∀ i,(left v (yy v d) d.1).getD i 0=if i<v.length/\i∈d.2 then v.getD i 0 % v.getD d.1 0 else v.getD i 0:=fun i=>by rw [uG hl,qa]
 have p:∀ i,i<v.length/\i∈d.2->0<v.getD d.1 0:=fun i hi=>by
  rcases h.pos with z | z;·rw [z] at hi;simp at hi
  ·exact z
 have w:=zfU (u:=left v (yy v d) d.1) (v:=v) (vf hl) fun i=>by
  rw [key];split
  ·rename_i hi;have:=z9w (wu hv i) (p i hi);exact za3 _ _ (by omega)
  ·exact _j _
 refine ⟨w.1,fun ⟨i,h1,h2,h3⟩=>w.2 ⟨i,?_⟩⟩;rw [key,_d ⟨h1,h2⟩];have h0:=p i ⟨h1,h2⟩;have:=zcA h0 h3;have:=_aP (v.getD i 0) (show v.getD d.1 0≠0 by omega);exact zeK (by omega)
theorem zdu(v:List Int):wt (rot v)=wt v:=by cases v with
 | nil=>rfl | cons a v=>simp [rot,wt];omega
theorem z8E{a b:List Int}(h:∀ x,x∈a ↔ x∈b)(ha:a≠[]):minL a=minL b:=by
 have hb:b≠[]:=fun z=>by
  have:=(h _).mp (minL_mem ha);rw [z] at this;simp at this
 have h1:=minL_le (xs:=b) _ ((h _).mp (minL_mem ha));have h2:=minL_le (xs:=a) _ ((h _).mpr (minL_mem hb));omega
theorem zgz{v:List Int}(h:nz v≠[])(h0:v.getD 0 0≠minL (nz v)):lp (rot v)<lp v:=by cases v with
 | nil=>simp [nz] at h | cons a t=>
  have e:minL (nz (rot (a::t)))=minL (nz (a::t)):=(z8E (fun x=>by rw [uE,uE,zaz]) h).symm;have m:=(uE.mp (minL_mem h)).1;have ha:a≠minL (nz (a::t)):=by simpa using h0
  unfold lp;rw [e];generalize minL (nz (a::t))=m' at *;have mt:m'∈t:=(_r.mp m).resolve_left fun z=>ha z.symm;show List.idxOf m' (t++[a])<_;rw [List.idxOf_append,_d mt,List.idxOf_cons];rw [show (a==m')=false from by simpa using ha];simp
def mu(r:Rl)(v:List Int):Nat:=5*wt v+(if r=.tu then lp v else 0)
theorem Lot.step{n:Nat}{v:List Int}(r:Rl)(h:Lot n v)(he:ended v=false):Lot n (stp r v):=by
 have dl:=kg r h he;have q:=zeW h.nn dl;refine ⟨h.sz,by rw [stp,zfq,vf q.len,h.len],fun x hx=>zei q x (z6K.mp hx),?_⟩;have fin:∀ x∈left v (yy v (deal r v)) (deal r v).1,0<x->∃ x∈stp r v,0<x:=fun x hx h0=>⟨x,z6K.mpr hx,h0⟩;rcases dl.pos with z | z
 ·obtain ⟨x,hx,h0⟩:=h.pos;refine fin x ?_ h0;have:left v (yy v (deal r v)) (deal r v).1=v:=z42 (vf q.len) fun i=>by rw [uG q.len,qa,z];simp
  rw [this];exact hx
 ·refine fin (v.getD (deal r v).1 0) ?_ z;have:(left v (yy v (deal r v)) (deal r v).1).getD (deal r v).1 0=v.getD (deal r v).1 0:=by rw [uG q.len,qa,_o (fun w=>dl.nb w.2)]
  rw [<- this];exact getD_mem (by rw [vf q.len];exact dl.lt)
theorem zfG{n:Nat}{v:List Int}(h:Lot n v):lp v<4:=by
 have:=(z6G h.nzne).1;have:=h.len;have:=h.sz;omega
theorem z9y{n:Nat}{v:List Int}(r:Rl)(h:Lot n v)(he:ended v=false):mu r (stp r v)<mu r v:=by
 have dl:=kg r h he;have w:=zf8 h.nn dl;have mn:∀ j,j<v.length->v.getD j 0≠0->minL (nz v)<=v.getD j 0:=fun j hj h0=>minL_le _ (uE.mpr ⟨getD_mem hj,h0⟩);have ge:∀ {b:Nat},b<v.length->(others v).getD b 0≠0->v.getD b 0<=v.getD (gp v) 0:=fun hb h0=>(z6o h hb h0).2.2;cases r with
 | nx=>
  have g:=z6J h.ne;have:wt (stp .nx v)<wt v:=by
   rw [stp,z3k (by decide)];refine w.2 ⟨gp v,g.1,by simp [deal],?_⟩;rw [g.2];exact maxL_ge _ (getD_mem dl.lt)
  simp only [mu];rw [_o (by decide),_o (by decide)];omega | le=>
  have g:=z6J h.ne;have:wt (stp .le v)<wt v:=by
   rw [stp,z3k (by decide)];refine w.2 ⟨gp v,g.1,by simp [deal],?_⟩;rw [g.2];exact maxL_ge _ (getD_mem dl.lt)
  simp only [mu];rw [_o (by decide),_o (by decide)];omega | al=>
  have l:=z6G h.nzne;obtain ⟨j,h1,h2,h3⟩:=zaB (p:=lp v) (z3D he) (by rw [l.2.1];exact l.2.2);have:wt (stp .al v)<wt v:=by
   rw [stp,z3k (by decide)];refine w.2 ⟨j,h2,by simp [deal,wH,h1,h2],?_⟩;show v.getD (lp v) 0<=_;rw [l.2.1];exact mn j h2 h3
  simp only [mu];rw [_o (by decide),_o (by decide)];omega | tu=>
  simp only [mu];rw [_d trivial,_d trivial];have st:Lot n (stp .tu v):=h.step .tu he;have l4:=zfG st;have same:left v (yy v (deal .tu v)) (deal .tu v).1=v->v.getD 0 0≠minL (nz v)->5*wt (stp .tu v)+lp (stp .tu v)<5*wt v+lp v:=fun e h0=>by
   have e2:stp .tu v=rot v:=by rw [stp,z4W,e]
   have:=zgz h.nzne h0;rw [e2,zdu];omega
  by_cases z:v.getD 0 0=0
  ·refine same (z42 (vf (xT _ _)) fun i=>?_) fun q=>?_
   ·rw [uG (xT _ _),qa];rw [show (deal .tu v).2=[] from by show (if v.getD 0 0=0 then [] else xN v 0)=[];rw [_d z]];simp
   ·exact (z6G h.nzne).2.2 (by rw [<- q,z])
  ·by_cases ex:∃ i,i<v.length/\i≠0/\v.getD 0 0<=v.getD i 0
   ·obtain ⟨i,h1,h2,h3⟩:=ex;have:wt (stp .tu v)<wt v:=by
     rw [stp,z4W,zdu];refine w.2 ⟨i,h1,?_,h3⟩;show i∈(if v.getD 0 0=0 then [] else xN v 0);rw [_o z];exact wH.mpr ⟨h1,h2⟩
    omega
   ·have nn0:=wu h.nn 0;refine same (z42 (vf (xT _ _)) fun i=>?_) fun q=>?_
    ·rw [uG (xT _ _),qa];split
     ·rename_i hi;have i0:i≠0:=by
       have:=hi.2;simp only [deal,_o z,wH] at this;exact this.2
      have:¬ v.getD 0 0<=v.getD i 0:=fun w=>ex ⟨i,hi.1,i0,w⟩;show v.getD i 0 % v.getD 0 0=_;exact Int.emod_eq_of_lt (wu h.nn i) (by omega)
     ·rfl
    ·obtain ⟨j,h1,h2,h3⟩:=zaB (p:=0) (z3D he) z;have:=mn j h2 h3;exact ex ⟨j,h2,h1,by omega⟩
inductive Run(r:Rl):List Int->List (List Int)->Prop | done {v:List Int}:ended v=true->Run r v [v] | step {v:List Int}{ls:List (List Int)}:ended v=false->Run r (stp r v) ls->Run r v (v::ls)
theorem zdA{n:Nat}{r:Rl}:∀ (k:Nat)(v:List Int),Lot n v->mu r v<=k->∃ ls,Run r v ls/\ls.length<=k+1
 | k,v,h,hk=>by cases he:ended v with
  | true=>exact ⟨[v],.done he,by simp⟩ | false=>
   have lt:=z9y r h he;match k,hk with
   | 0,hk=>omega | k+1,hk=>
    obtain ⟨ls,h1,h2⟩:=zdA (r:=r) k (stp r v) (h.step r he) (by omega);exact ⟨v::ls,.step he h1,by simp;omega⟩
theorem zgO{m:Nat}:∀ {v:List Int},(∀ x∈v,x.toNat<2 ^ m)->wt v<=v.length*m
 | [],_=>by simp [wt] | a::v,h=>by
  have ih:=zgO (v:=v) fun x hx=>h x (by simp [hx]);have:=zfJ m a.toNat (h a (by simp));simp only [wt,_w,List.sum_cons,_i,Nat.succ_mul] at ih ⊢;omega
theorem zhP{n m:Nat}{v:List Int}{r:Rl}(h:Lot n v)(hb:∀ x∈v,x.toNat<2 ^ m):mu r v<=20*m+3:=by
 have w:=zgO hb;have l:=zfG h;have:v.length*m<=4*m:=Nat.mul_le_mul_right m (by have:=h.len;have:=h.sz;omega);unfold mu;split<;>omega
theorem zhA{n:Nat}{v:List Int}{B:Int}(r:Rl)(h:Lot n v)(he:ended v=false)(hb:∀ y∈v,y<=B):∀ y∈stp r v,y<=B:=fun y hy=>by
 have dl:=kg r h he;have q:=zeW h.nn dl;have hy:=z6K.mp hy;obtain ⟨i,hi,rfl⟩:=_E.mp hy;have e:(left v (yy v (deal r v)) (deal r v).1)[i]=(left v (yy v (deal r v)) (deal r v).1).getD i 0:=by simp [List.getD,_f hi]
 have hi':i<v.length:=by rw [<- vf (b:=(deal r v).1) q.len];exact hi
 have b:=hb _ (getD_mem hi');rw [e,uG q.len,qa];split
 ·rename_i w;rcases dl.pos with z | z;·rw [z] at w;simp at w
  ·have:=z9w (wu h.nn i) z;omega
 ·exact b
def scl(k:Int)(v:List Int):List Int:=v.map fun x=>x*k
section
variable {k:Int}(hk:0<k)
include hk
theorem zeo{x y:Int}:x*k=y*k ↔ x=y:=⟨fun h=>Int.eq_of_mul_eq_mul_right (by omega) h,fun h=>by rw [h]⟩
theorem zfp{x:Int}{v:List Int}:x*k∈scl k v ↔ x∈v:=by
 unfold scl;rw [_ap];exact ⟨fun ⟨y,hy,e⟩=>by rw [<- (zeo hk).mp e];exact hy,fun h=>⟨x,h,rfl⟩⟩
theorem zfk(v:List Int):(scl k v).length=v.length:=by simp [scl]
end
def zU(r:Rl)(ls:List (List Int)):List Tb:=ls.dropLast.map (z74 r)
theorem Run.ne{r:Rl}{v:List Int}{ls:List (List Int)}(R:Run r v ls):ls≠[]:=by cases R<;>simp
theorem Run.tabs_cons{r:Rl}{v:List Int}{ls:List (List Int)}(h:Run r (stp r v) ls):zU r (v::ls)=z74 r v::zU r ls:=by
 obtain ⟨a,t,rfl⟩:=List.exists_cons_of_ne_nil h.ne;simp [zU]
open Dd (lexN)
end Pm
namespace Pg
open L2 Dd Pm
abbrev iL(ns:List Int):List D:=ns.map D.int
theorem zjo{i:Int}{m:Nat}(h:i.natAbs<2 ^ m)(hm:m<=2000):i.natAbs<BIG:=_q h (_ad (by decide) (by omega))
theorem zfT{a b:Int}{m k:Nat}(s:Sto)(ha:a.natAbs<2 ^ m)(hm:m<=2000)(hb:b.natAbs<2 ^ k)(hk:k<=2000):ve (.int a) (.int b) s=.ok (.int (a*b)) s:=by rw [zcW,_d ⟨zjo ha hm,zjo hb hk⟩]
theorem z7C{a b:Int}(s:Sto)(hb:0<b):zal (.int a) (.int b) s=.ok (.int (a % b)) s:=by rw [zfR,_d hb]
theorem zbT{xs:List D}(s:Sto)(h:∀ x∈xs,x=.bl true):zbZ [.lst xs] s=.ok (.bl true) s:=by
 have e:xs=(xs.map fun _=>true).map D.bl:=by
  rw [_bg];conv=>lhs;rw [<- List.map_id xs]
  exact _bm fun x hx=>h x hx
 have b:bools xs=some (xs.map fun _=>true):=by
  conv=>lhs;rw [e]
  exact z5a _
 simp [zbZ,zO,b]
theorem z3m{ns:List Int}(s:Sto)(h:ns≠[]):wR [.tup (iL ns)] s=.ok (.int (maxL ns)) s:=by cases ns with
 | nil=>exact absurd rfl h | cons n ns=>simp only [wR,zO,_G,vz]
theorem zdf{ns:List Int}(s:Sto)(h:ns≠[]):z2J [.tup (iL ns)] s=.ok (.int (minL ns)) s:=by cases ns with
 | nil=>exact absurd rfl h | cons n ns=>simp only [z2J,zO,_G,vz]
theorem zfW{ns:List Int}(s:Sto)(h:ns≠[]):wR [.lst (iL ns)] s=.ok (.int (maxL ns)) s:=by cases ns with
 | nil=>exact absurd rfl h | cons n ns=>simp only [wR,zO,_G,vz]
theorem zc5{ns:List Int}{l:Nat}{s:Sto}(h:ns≠[])(e:s[l]? = some (iL ns)):wR [.loc l] s=.ok (.int (maxL ns)) s:=by cases ns with
 | nil=>exact absurd rfl h | cons n ns=>simp only [wR,zO,e,_G,vz]
theorem z93(i:Int)(s:Sto):wk [.int i] s=.ok (.bl true) s:=by simp [wk,Mof,ki,zq,gIs,tyD,isT]
theorem z3r(xs:List D)(s:Sto)(h:2<=xs.length/\xs.length<=4):yr [.tup xs] s=.ok (.bl true) s:=by
 have h1:(2:Int)<=xs.length:=by omega
 have h2:(xs.length:Int)<=4:=by omega
 simp [yr,Mof,vK,zq,gIs,tyD,isT,xi,zO,h1,h2]
theorem z54 (ns:List Int) (s:Sto) (h:ns.length<=1000):yo [.tup (iL ns),.int ns.length] s=.ok (.bl true) s:=by
 simp [yo,Mof,uZ,zq,gIs,tyD,isT,xi,zO];rw [z5f (fun _=>D.bl true) (iL ns) [] (by intro x hx;obtain ⟨n,_,rfl⟩:=_ap.mp hx;simp [z93]) (by simp [cap];omega)];simp only [Rb,_ao];rw [zbT s (by intro x hx;obtain ⟨_,_,rfl⟩:=_ap.mp hx;rfl)];simp
abbrev rD(r:List Int):D:=.tup (iL r)
abbrev tD(T:Tb):D:=.tup (T.map rD)
theorem zaa{xs:List D}{j:Nat}{d:D}(s:Sto)(h:xs[j]? = some d):dIx (.tup xs) (.int j) s=.ok d s:=by
 have hj:j<xs.length:=(_c.mp h).1;have e:ixN xs.length (j:Int)=some j:=by
  unfold ixN;rw [_d (by omega),_d (by omega)];simp
 simp only [dIx,zO,atI,e,_G,h]
theorem z9P{n:Nat}{ar:FA}{Z:Ev}{s s1:Sto}(hn:n<=1000)(h:ar Z s=.ok [.int n] s1):z2K ar Z s=.ok (xO n,[]) s1:=by
 have c62:-(2 ^ 62)<=(n:Int)/\(n:Int)<2 ^ 62:=by omega
 rw [zdr,h,Rb];simp only;rw [_d c62,_aR]
theorem z3Y(xs:List D)(i:Nat)(s:Sto):dSl (.tup xs) none (some (i:Int)) s=.ok (.tup (xs.take i)) s:=by
 have e:Dd.cutD xs none (some (i:Int))=xs.take i:=by
  unfold Dd.cutD;rw [HT.z7B,HT.za9];simp [List.take_eq_take_min]
 simp only [dSl,e]
theorem z2n(xs:List D)(i:Nat)(s:Sto):dSl (.tup xs) (some (i:Int)) none s=.ok (.tup (xs.drop i)) s:=by
 have e:Dd.cutD xs (some (i:Int)) none=xs.drop i:=by
  unfold Dd.cutD;rw [HT.z7B,HT.za9];by_cases h:i<=xs.length
  ·rw [Nat.min_eq_left h];exact _bG (by simp)
  ·rw [Nat.min_eq_right (by omega)];simp [List.drop_of_length_le (show xs.length<=i by omega)]
 simp only [dSl,e]
theorem z5k {r:List Int} {j:Nat} (s:Sto) (h:j<r.length):dIx (rD r) (.int (j:Int)) s=.ok (.int (r.getD j 0)) s:=zaa (xs:=iL r) (j:=j) (d:=.int (r.getD j 0)) s (by simp [_Z,_f h,List.getD])
theorem kP{α:Type}{all:List D}{s:Sto}{body:D->Sto->R (Option D)}(g f:α->D)(p:α->Bool):∀ (l:List α)(acc:List D),(∀ a∈l,body (g a) s=.ok (if p a=true then some (f a) else none) s)->acc.length+l.length<=cap->wq [] all body (l.map g) acc s=.ok (acc++(l.filter p).map f) s
 | [],acc,_,_=>by simp [wq,okG] | x::xs,acc,hb,hl=>by
  have og:okG [] all s:=by intro p hp;simp at hp
  rw [_w,wq,_d og,hb x (by simp)];cases hp:p x with
  | true=>
   have ih:=kP (all:=all) g f p xs (acc++[f x]) (fun y hy=>hb y (by simp [hy])) (by simp at hl ⊢;omega);have hc:acc.length<cap:=by simp at hl;omega
   simp [hc,ih,hp] | false=>
   have ih:=kP (all:=all) g f p xs acc (fun y hy=>hb y (by simp [hy])) (by simp at hl ⊢;omega);simp [ih,hp]
theorem vk{α:Type}{fi:FI}{mp:List (Option Nat)}{fg:FG}{ft:FT}{fe:FE}{Z:Ev}{s:Sto}(g f:α->D)(p:α->Bool)(ev:α->Ev)(l:List α) (hi:fi Z s=.ok (l.map g,[]) s)(hg:∀ a∈l,fg (g a) (xl mp Z) s=.ok (ev a) s)(ht:∀ a∈l,ft (ev a) s=.ok (p a) s)(he:∀ a∈l,p a=true->fe (ev a) s=.ok (f a) s)(hl:l.length<=cap): zT fi mp fg ft fe Z s=.ok (.lst ((l.filter p).map f)) s:=by
 rw [jF,jp,hi,Rb];rw [kP g f p l [] (by
  intro a ha;simp only [hg a ha,ht a ha,Rb];cases hp:p a with
  | true=>simp [he a ha hp] | false=>simp) (by simpa using hl)];rfl
theorem comp_map{α:Type}{fi:FI}{mp:List (Option Nat)}{fg:FG}{fe:FE}{Z:Ev}{s:Sto}(g f:α->D)(ev:α->Ev)(l:List α) (hi:fi Z s=.ok (l.map g,[]) s)(hg:∀ a∈l,fg (g a) (xl mp Z) s=.ok (ev a) s)(he:∀ a∈l,fe (ev a) s=.ok (f a) s)(hl:l.length<=cap): zT fi mp fg wS fe Z s=.ok (.lst (l.map f)) s:=by
 have:=vk (ft:=wS) g f (fun _=>true) ev l hi hg (fun a _=>rfl) (fun a ha _=>he a ha) hl;rw [show l.filter (fun _=>true)=l from List.filter_eq_self.mpr (by simp)] at this;exact this
theorem z8a{f:FE}{Z:Ev}{s:Sto}{xs:List D}(h:f Z s=.ok (.tup xs) s):wU f Z s=.ok (xs,[]) s:=by simp [h]
theorem kN{f:FE}{Z:Ev}{s:Sto}{xs:List D}(h:f Z s=.ok (.lst xs) s):wU f Z s=.ok (xs,[]) s:=by simp [h]
structure LotB(n m:Nat)(v:List Int):Prop extends Lot n v where bd:∀ x∈v,x<2 ^ m
theorem LotB.abs{n m:Nat}{v:List Int}(h:LotB n m v):∀ x∈v,x.natAbs<2 ^ m:=fun x hx=>by
 have h1:=h.bd x hx;have h2:=h.nn x hx;have e:(x.natAbs:Int)=x:=_bU h2;have:(x.natAbs:Int)<((2 ^ m:Nat):Int):=by rw [e];simpa using h1
 omega
theorem LotB.toN{n m:Nat}{v:List Int}(h:LotB n m v):∀ x∈v,x.toNat<2 ^ m:=fun x hx=>by
 have h1:=h.abs x hx;have h2:=h.nn x hx;omega
theorem _root_.Pm.Lot.le4{n:Nat}{v:List Int}(h:Lot n v):v.length<=4/\2<=v.length:=by have:=h.len;have:=h.sz;omega
theorem z7T{n:Nat}{v:List Int}(h:Lot n v)(s:Sto):zS [rD v] s=.ok (.bl true) s:=by
 have l4:=h.le4;have h1:=z3r (iL v) s (by simp;omega);have h2:=z54 v s (by omega);have g1:=z3m s h.ne;have g2:=zdf s h.ne;have mn:0<=minL v:=h.nn _ (minL_mem h.ne);have mx:0<maxL v:=by obtain ⟨x,hx,h0⟩:=h.pos;have:=maxL_ge (xs:=v) x hx;omega
 have gl:xi [rD v] s=.ok (.int v.length) s:=by simp [xi,zO]
 have key:∀ d:D,yr [d] s=.ok (.bl true) s->xi [d] s=.ok (.int v.length) s->yo [d,.int v.length] s=.ok (.bl true) s->wR [d] s=.ok (.int (maxL v)) s->z2J [d] s=.ok (.int (minL v)) s->zS [d] s=.ok (.bl true) s:=fun d a1 a2 a3 a4 a5=>by simp [zS,Mof,vG,zq,a1,a2,a3,a4,a5,mn,mx]
 exact key _ h1 gl h2 g1 g2
theorem z3l{n:Nat}{v:List Int}(h:Lot n v)(s:Sto):yC [rD v] s=.ok .non s:=by
 have h1:=z7T h s;have key:∀ d:D,zS [d] s=.ok (.bl true) s->yC [d] s=.ok .non s:=fun d a1=>by simp [yC,Mof,z2a,zq,a1]
 exact key _ h1
theorem nzC{v:List Int}{f:FE}{Z:Ev}{s:Sto}{mp:List (Option Nat)}(hf:f Z s=.ok (rD v) s)(hl:v.length<=4):zT (wU f) [none] (vw 0) (tOf (eOp dNe (zc 0) (eC (.int 0)))) (zc 0) Z s=.ok (.lst (iL (nz v))) s:=by
 rw [vk D.int D.int (fun x=>decide (x≠0)) (fun x=>[some (.int x)]) v (z8a hf) (fun a _=>by simp) (fun a _=>by simp) (fun a _ _=>by simp) (by simp [cap];omega)];rfl
theorem z1x {n:Nat} {v:List Int} (h:Lot n v) (s:Sto):yt [rD v] s=.ok (.bl (ended v)) s:=by
 have h1:=z3l h s;have key:∀ d:D,yC [d] s=.ok .non s->zT (wU (zc 0)) [none] (vw 0) (tOf (eOp dNe (zc 0) (eC (.int 0)))) (zc 0) [some d] s=.ok (.lst (iL (nz v))) s->yt [d] s=.ok (.bl (ended v)) s:=fun d a1 a2=>by
  have st:zq ["lot"] [d]=[some d]:=rfl;simp only [yt,Mof,z0w,st,_i,_l,_A];rw [zi (Z':=[some d]) (s':=s) (by simp [a1])];simp only [kU,yI,yk,yf,zo,zG,kz,a2,Rb];simp only [xi,zO,Rb,z8I,_J];have:decide (((nz v).length:Int)=1)=ended v:=by
   unfold ended;by_cases e:(nz v).length=1;·simp [e]
   ·have:¬ ((nz v).length:Int)=1:=by omega
    simp [e,this]
  rw [this]
 exact key _ h1 (nzC (mp:=[]) (by simp) h.le4.1)
end Pg
namespace Pm
open L2 (maxL minL maxL_ge maxL_mem minL_le minL_mem n3)
end Pm
namespace Pg
open L2 Dd Pm
def nmR:Rl->Str | .nx=>"next" | .le=>"least" | .al=>"all" | .tu=>"turn"
theorem z9N{fo fv:FE}{Z:Ev}{s:Sto}{v:List Int}{k:Int}(h1:fo Z s=.ok (rD v) s)(h2:fv Z s=.ok (.int k) s)(hk:k∈v):zcD fo fv Z s=.ok (.int (v.idxOf k:Nat)) s:=by simp only [zfL,h1,h2,Rb,vz,_d hk]
theorem z3s {n:Nat} {v:List Int} (h:Lot n v) (s:Sto):zx [rD v] s=.ok (.tup [.int (gp v:Nat),rD (others v)]) s:=by
 have l4:=h.le4;have g1:=z3m s h.ne;have key:∀ d:D,d=rD v->zx [d] s=.ok (.tup [.int (gp v:Nat),rD (others v)]) s:=fun d hd=>by
  have st:zq ["lot","at"] [d]=[some d,none]:=rfl;have gm:wR [d] s=.ok (.int (maxL v)) s:=by rw [hd];exact g1
  have i1:zcD (zc 0) (ze wR (za (zc 0) zh)) [some d,none] s=.ok (.int (gp v:Nat)) s:=z9N (by simp [hd]) (by simp [gm]) (maxL_mem h.ne);simp only [zx,Mof,wD,st,_i,_l,_A];rw [zi (Z':=[some d,some (.int (gp v:Nat))]) (s':=s) (by rw [wm,zW,i1];simp)];have e1:=z3Y (iL v) (gp v) s;have e2:=z2n (iL v) (gp v+1) s;rw [show (((gp v+1:Nat):Int))=(gp v:Int)+1 from rfl] at e2;simp only [wr,yI,uC,zo,zG,yg,yk,zb0,jb,z22,kz,_e,_h,Rb,zdb,hd,e1,e2];rw [_d (by simp [cap]),Rb,z5m,_d (by simp [cap];omega),Rb,e2,Rb,z5m,_d (by simp [cap];omega),Rb,Rb,Rb,_d (by simp [cap])];simp [others,_cD,_cE]
 exact key _ rfl
theorem z01 {v:List Int} (h:nz v≠[]) (hl:v.length<=4) (s:Sto):zY [rD v] s=.ok (.int (lp v:Nat)) s:=by
 have key:∀ d:D,d=rD v->zY [d] s=.ok (.int (lp v:Nat)) s:=fun d hd=>by
  have st:zq ["lot"] [d]=[some d]:=rfl;have c:=nzC (mp:=[]) (f:=zc 0) (Z:=[some d]) (s:=s) (v:=v) (by simp [hd]) hl;have gm:z2J [.lst (iL (nz v))] s=.ok (.int (minL (nz v))) s:=by
   obtain ⟨a,t,e⟩:=List.exists_cons_of_ne_nil h;rw [e];simp only [z2J,zO,_G,iL];rw [vz]
  simp only [zY,Mof,jL,st,_i,_l,_A,jf,yI];rw [z9N (v:=v) (k:=minL (nz v)) (by simp [hd]) (by rw [yf,zo,c];simp only [Rb,zG,gm]) (uE.mp (minL_mem h)).1];rfl
 exact key _ rfl
abbrev nL(l:List Nat):List D:=l.map fun i=>D.int ((i:Nat):Int)
theorem z5R {v:List Int} (p:Nat) (hl:v.length<=4) (s:Sto):xV [rD v,.int (p:Nat)] s=.ok (.lst (nL (xN v p))) s:=by
 have key:∀ d:D,xi [d] s=.ok (.int v.length) s->xV [d,.int (p:Nat)] s=.ok (.lst (nL (xN v p))) s:=fun d hd=>by
  have st:zq ["lot","place"] [d,.int (p:Nat)]=[some d,some (.int (p:Nat))]:=rfl;have ir:z2K (za (ze xi (za (zc 0) zh)) zh) [some d,some (.int (p:Nat))] s=.ok ((List.range v.length).map fun i=>D.int ((i:Nat):Int),[]) s:=by
   rw [z9P (n:=v.length) (s1:=s) (by omega) (by simp [hd])];rfl
  simp only [xV,Mof,z39,st,_i,_l,_A,z1P,yI];rw [vk (fun i:Nat=>D.int ((i:Nat):Int)) (fun i:Nat=>D.int ((i:Nat):Int)) (fun i=>decide (i≠p)) (fun i=>[some (.int (p:Nat)),some (.int (i:Nat))]) (List.range v.length) ir (fun a _=>by simp) (fun a _=>by
   have:decide ((a:Int)≠(p:Nat))=decide (a≠p):=by
    by_cases e:a=p;·simp [e]
    ·have:¬ (a:Int)=(p:Nat):=by omega
     simp [e,this]
   simp only [vq,yk,yg,_h,_e,Rb,zeg,this]) (fun a _ _=>by simp) (by simp [cap];omega)];rfl
 exact key _ (by simp [xi,zO])
abbrev z2e(d:Nat×List Nat):D:=.tup [.int d.1,.lst (nL d.2)]
theorem z9r {n:Nat} {v:List Int} (h:Lot n v) (s:Sto):wN [rD v] s=.ok (z2e (deal .nx v)) s:=by
 have ne:others v≠[]:=fun z=>by
  have:=xF h.ne;rw [z] at this;exact h.ne (_aD.mp this.symm)
 have g:=z3s h s;have g1:=z3m (ns:=others v) s ne;have key:∀ d e:D,e=rD (others v)->zx [d] s=.ok (.tup [.int (gp v:Nat),e]) s->wN [d] s=.ok (z2e (deal .nx v)) s:=fun d e he hg=>by
  have st:zq ["lot","greatest","others"] [d]=[some d,none,none]:=rfl;have gm:wR [e] s=.ok (.int (maxL (others v))) s:=by rw [he];exact g1
  simp only [wN,Mof,z3f,st,_i,_l,_A];rw [zi (Z':=[some d,some (.int (gp v:Nat)),some e]) (s':=s) (by simp [hg])];have ix:zcD (zc 2) (ze wR (za (zc 2) zh)) [some d,some (.int (gp v:Nat)),some e] s=.ok (.int ((others v).idxOf (maxL (others v)):Nat)) s:=z9N (v:=others v) (by simp [he]) (by simp [gm]) (maxL_mem ne);simp only [z2f,yI,uC,zo,ix,Rb,zG,z0O,yg,_e,_h];simp [cap,deal]
 exact key _ _ rfl g
theorem z9c {n:Nat} {v:List Int} (h:Lot n v) (he:ended v=false) (s:Sto):wj [rD v] s=.ok (z2e (deal .le v)) s:=by
 have g:=z3s h s;have lpo:=z01 (uF h he) (by rw [xF h.ne];exact h.le4.1) s;have key:∀ d e:D,zY [e] s=.ok (.int (lp (others v):Nat)) s->zx [d] s=.ok (.tup [.int (gp v:Nat),e]) s->wj [d] s=.ok (z2e (deal .le v)) s:=fun d e he hg=>by
  have st:zq ["lot","greatest","others"] [d]=[some d,none,none]:=rfl;simp only [wj,Mof,z29,st,_i,_l,_A];rw [zi (Z':=[some d,some (.int (gp v:Nat)),some e]) (s':=s) (by simp [hg])];simp [he,cap,deal]
 exact key _ _ lpo g
theorem zca {n:Nat} {v:List Int} (h:Lot n v) (s:Sto):vX [rD v] s=.ok (z2e (deal .al v)) s:=by
 have lpo:=z01 h.nzne h.le4.1 s;have ab:=z5R (v:=v) (lp v) h.le4.1 s;have key:∀ d:D,zY [d] s=.ok (.int (lp v:Nat)) s->xV [d,.int (lp v:Nat)] s=.ok (.lst (nL (xN v (lp v)))) s->vX [d] s=.ok (z2e (deal .al v)) s:=fun d h1 h2=>by
  have st:zq ["lot","by"] [d]=[some d,none]:=rfl;simp only [vX,Mof,z5V,st,_i,_l,_A];rw [zi (Z':=[some d,some (.int (lp v:Nat))]) (s':=s) (by simp [h1])];simp [h2,cap,deal]
 exact key _ lpo ab
theorem za1 {n:Nat} {v:List Int} (h:Lot n v) (s:Sto):wO [rD v] s=.ok (z2e (deal .tu v)) s:=by
 have ab:=z5R (v:=v) 0 h.le4.1 s;have i0:dIx (rD v) (.int 0) s=.ok (.int (v.getD 0 0)) s:=z5k (j:=0) s (by have:=h.le4.2;omega);have key:∀ d:D,dIx d (.int 0) s=.ok (.int (v.getD 0 0)) s->xV [d,.int 0] s=.ok (.lst (nL (xN v 0))) s->wO [d] s=.ok (z2e (deal .tu v)) s:=fun d h1 h2=>by
  have st:zq ["lot"] [d]=[some d]:=rfl;simp only [wO,Mof,z3q,st,_i,_l,_A];by_cases z:v.getD 0 0=0;·rw [zaK (d:=z2e (deal .tu v)) (s':=s) (by
    rw [z] at h1;have e:deal .tu v=(0,[]):=by show (0,if v.getD 0 0=0 then [] else xN v 0)=_;rw [_d z]
    rw [e];simp [h1,cap])]
  ·rw [zi (Z':=[some d]) (s':=s) (by
    have:¬ v.getD 0 0=0:=z;generalize v.getD 0 0=y at *;simp [h1,this])];have e:deal .tu v=(0,xN v 0):=by show (0,if v.getD 0 0=0 then [] else xN v 0)=_;rw [_o z]
   rw [e];simp [h2,cap]
 exact key _ i0 ab
theorem z9Z(r:Rl)(s:Sto):yD [.str (nmR r)] s=.ok (.bl true) s:=by
 have l:∀ r,(yN.lookup (nmR r)).isSome=true:=fun r=>by cases r<;>decide
 have l:=l r;obtain ⟨y,l⟩:=_bo.mp l;generalize nmR r=x at *;simp [yD,Mof,z3c,zq,gIs,tyD,isT,l]
theorem wa(r:Rl)(s:Sto):wb [.str (nmR r)] s=.ok .non s:=by
 have l:=z9Z r s;generalize nmR r=x at *;simp [wb,Mof,z0S,zq,l]
theorem z5b{n:Nat}{v:List Int}(r:Rl)(h:Lot n v)(s:Sto):zB [.str (nmR r),rD v] s=.ok .non s:=by
 have h1:=wa r s;have h2:=z3l h s;have key:∀ d e:D,wb [d] s=.ok .non s->yC [e] s=.ok .non s->zB [d,e] s=.ok .non s:=fun d e a1 a2=>by simp [zB,Mof,wZ,zq,a1,a2]
 exact key _ _ h1 h2
theorem z6T{n:Nat}{v:List Int}(r:Rl)(h:Lot n v)(he:ended v=false)(s:Sto):wc [.str (nmR r),rD v] s=.ok .non s:=by
 have h1:=z5b r h s;have h2:=z1x h s;rw [he] at h2;have key:∀ d e:D,zB [d,e] s=.ok .non s->yt [e] s=.ok (.bl false) s->wc [d,e] s=.ok .non s:=fun d e a1 a2=>by simp [wc,Mof,z0Y,zq,a1,a2]
 exact key _ _ h1 h2
def dfR:Rl->Str | .nx=>"by_next" | .le=>"by_least" | .al=>"by_all" | .tu=>"by_turn"
def MR:Rl->Mir | .nx=>wN | .le=>wj | .al=>vX | .tu=>wO
theorem zjU{n:Nat}{v:List Int}(r:Rl)(h:Lot n v)(he:ended v=false)(s:Sto):MR r [rD v] s=.ok (z2e (deal r v)) s:=by cases r with
 | nx=>exact z9r h s | le=>exact z9c h he s | al=>exact zca h s | tu=>exact za1 h s
theorem zhO(r:Rl):yN.lookup (nmR r)=some (dfR r):=by cases r<;>decide
theorem zkq(r:Rl):([("by_next",wN),("by_least",wj),("by_all",vX),("by_turn",wO)]:List (Str×Mir)).lookup (dfR r)=some (MR r):=by
 cases r;·rfl
 ·rfl
 ·rfl
 ·rfl
theorem ziJ(i:Nat)(l:List Nat)(s:Sto):z7o false (.int i) (.lst (nL l)) s=.ok (.bl (decide (i∈l))) s:=by
 have e:∀ l:List Nat,je (nL l)=some (l.map fun j=>V.int ((j:Nat):Int)):=by
  intro l;induction l with
  | nil=>rfl | cons a l ih=>simp only [nL] at ih;simp [nL,je,z1O,ih]
 have e2:∀ l:List Nat,inV (.int i) (l.map fun j=>V.int ((j:Nat):Int))=decide (i∈l):=by
  intro l;induction l with
  | nil=>rfl | cons a l ih=>
   simp only [inV,_w,List.any_cons] at ih ⊢;rw [ih];by_cases q:i=a;·subst q;simp [eqV]
   ·have q':¬ (a:Int)=i:=by omega
    simp [eqV,q,q']
 simp only [z7o,z1O,zO,_G,e,e2];rfl
theorem z84(x:List D)(s:Sto):vY [.lst x] s=.ok (.tup x) s:=by simp [vY,zO]
theorem z8u {n m:Nat} {v:List Int} (r:Rl) (h:LotB n m v) (he:ended v=false) (hm:m<=1999) (s:Sto):wJ [.str (nmR r),rD v] s=.ok (.tup [.int ((deal r v).1:Nat),.lst (iL (yy v (deal r v)))]) s:=by
 have dl:=kg r h.toLot he;have l4:=h.toLot.le4;have by_:=zjU r h.toLot he s;have ixs:∀ i,i<v.length->dIx (rD v) (.int ((i:Nat):Int)) s=.ok (.int (v.getD i 0)) s:=fun i hi=>z5k s hi;have gl:xi [rD v] s=.ok (.int v.length) s:=by simp [xi,zO]
 have key:∀ d e:D,e=.str (nmR r)->MR r [d] s=.ok (z2e (deal r v)) s->xi [d] s=.ok (.int v.length) s->(∀ i,i<v.length->dIx d (.int ((i:Nat):Int)) s=.ok (.int (v.getD i 0)) s)->wJ [e,d] s=.ok (.tup [.int ((deal r v).1:Nat),.lst (iL (yy v (deal r v)))]) s:=fun d e he' h1 h2 h3=>by
  have st:zq ["rule","lot","deal","by","divided"] [e,d]=[some e,some d,none,none,none]:=rfl;simp only [wJ,Mof,z2D,st,_i,_l,_A];have lk:=zhO r;have lm:=zkq r;rw [zi (Z':=[some e,some d,some (.fn (dfR r)),none,none]) (s':=s) (by
   generalize dfR r=y at *;simp [he',lk])];rw [zi (Z':=[some e,some d,some (.fn (dfR r)),some (.int ((deal r v).1:Nat)),some (.lst (nL (deal r v).2))]) (s':=s) (by
   rw [z0N,z8b,zcd];simp only [_e,_h];rw [lm];simp only [zo,zG,yg,_e,_h,Rb,h1,zdJ,_ac,_ab])];have ir:z2K (za (ze xi (za (zc 1) zh)) zh) [some e,some d,some (.fn (dfR r)),some (.int ((deal r v).1:Nat)),some (.lst (nL (deal r v).2))] s=.ok ((List.range v.length).map fun i=>D.int ((i:Nat):Int),[]) s:=by
   rw [z9P (n:=v.length) (s1:=s) (by omega) (by simp [h2])];rfl
  have c:=comp_map (mp:=[some 4,some 1,some 3,none]) (fg:=vw 3) (fe:=eIf (tOf (eOp (z7o false) (zc 3) (zc 0))) (eOp z5t (eOp dIx (zc 1) (zc 3)) (eOp dIx (zc 1) (zc 2))) (eC (.int 0))) (fun i:Nat=>D.int ((i:Nat):Int)) (fun i:Nat=>D.int (if i∈(deal r v).2 then v.getD i 0 / v.getD (deal r v).1 0 else 0)) (fun i=>[some (.lst (nL (deal r v).2)),some d,some (.int ((deal r v).1:Nat)),some (.int (i:Nat))]) (List.range v.length) ir (fun a _=>by simp) (fun i hi=>by
    have hi':i<v.length:=by simpa using hi
    have i1:=ziJ i (deal r v).2 s;have e1:=h3 i hi';have e2:=h3 _ dl.lt;simp only [zgZ,vq,yk,yg,kz,_e,_h,Rb,i1,e1,e2];by_cases q:i∈(deal r v).2
    ·have p0:0<v.getD (deal r v).1 0:=by
      rcases dl.pos with z | z;·rw [z] at q;simp at q
      ·exact z
     have p1:v.getD (deal r v).1 0<2 ^ 2000:=_bv (h.bd _ (Pm.getD_mem dl.lt)) (by
      have:(2:Nat) ^ m<=2 ^ 2000:=_ad (by decide) (by omega);have:=Int.ofNat_le.mpr this;simpa using this);have big:(v.getD (deal r v).1 0).natAbs<BIG:=_q (h.abs _ (Pm.getD_mem dl.lt)) (_ad (by decide) (by omega));simp only [q,_cw,_A];rw [zaq,_d ⟨p0,big⟩]
    ·simp only [q,_b6,_bq];rfl) (by simp [cap];omega);simp only [z0X,yI,uC,zo,c,Rb,zG,yg,_e,_h];rw [_d (by simp [cap])];simp [yy,_bc]
 exact key _ _ rfl by_ gl ixs
theorem eq_str{a b:Str}(ha:PyData.strOk a=true)(hb:PyData.strOk b=true)(s:Sto):dEq (.str a) (.str b) s=.ok (.bl (a==b)) s:=by simp [dEq,zco,eqD,vO,PyData.eqv,SeqAt.shaped,PyData.canLay0,PyData.depth,ha,hb]
theorem zaH(r:Rl):PyData.strOk (nmR r)=true:=by cases r<;>decide +kernel
theorem zaR(r:Rl)(s:Sto):dEq (.str (nmR r)) (.str "turn") s=.ok (.bl (decide (r=.tu))) s:=by
 rw [eq_str (zaH r) (by decide +kernel)];congr 2;cases r<;>decide +kernel
theorem zeF(r:Rl)(xs:List D)(hl:xs.length<=4)(s:Sto):jZ [.str (nmR r),.tup xs] s=.ok (.tup (mvd r xs)) s:=by
 have e1:=z3Y xs 1 s;have e2:=z2n xs 1 s;have cp:(xs.drop 1).length+(xs.take 1).length<=cap:=by simp [cap];omega
 have key:∀ d e:D,d=.str (nmR r)->e=.tup xs->jZ [d,e] s=.ok (.tup (mvd r xs)) s:=fun d e hd he=>by
  have st:zq ["rule","numbers"] [d,e]=[some d,some e]:=rfl;have t:tOf (eOp dEq (zc 0) (eC (.str "turn"))) [some d,some e] s=.ok (decide (r=.tu)) s:=by simp only [vq,yk,yg,kz,_e,Rb,hd,zaR]
  simp only [jZ,Mof,z8g,st,_i,_l,_A,z5r,yI,zgZ,t,Rb];by_cases q:r=.tu
  ·simp only [q,_cw,_A];subst q;rw [z4W];simp only [yk,zb0,yg,jb,z22,kz,_e,_h,Rb,he];rw [show (1:Int)=((1:Nat):Int) from rfl,e2,Rb,e1,Rb,z5m,_d cp];rfl
  ·simp only [q,_b6];rw [z3k q];simp [he]
 exact key _ _ rfl rfl
theorem z7X{α β:Type}(f:α->D)(g:β->D):∀ (l:List α)(k:List β),z1s (l.map f) (k.map g)=(l.zip k).map fun p=>D.tup [f p.1,g p.2]
 | [],_=>by simp [z1s] | _::_,[]=>by simp [z1s] | a::l,b::k=>by simp [z1s,z7X f g l k]
theorem zfl{α β:Type}(r:Rl)(f:α->β)(xs:List α):mvd r (xs.map f)=(mvd r xs).map f:=by unfold mvd rot;split<;>simp [_cD,_cE]
theorem LotB.q{n m:Nat}{v:List Int}(r:Rl)(h:LotB n m v)(he:ended v=false):Qs v (deal r v).1 (yy v (deal r v)):=zeW h.nn (kg r h.toLot he)
theorem zfV{n m:Nat}{v:List Int}(r:Rl)(h:LotB n m v)(he:ended v=false):∀ q∈yy v (deal r v),0<=q/\q<2 ^ m:=fun q hq=>by
 have Q:=h.q r he;refine ⟨Q.nn q hq,?_⟩;obtain ⟨i,hi,rfl⟩:=_E.mp hq;have hi':i<v.length:=by rw [<- Q.len];exact hi
 simp only [yy,List.getElem_map,List.getElem_range];have b:=h.bd _ (Pm.getD_mem hi');have n0:=wu h.nn i;split
 ·have:=Int.ediv_le_self (v.getD (deal r v).1 0) n0;omega
 ·omega
theorem zgE {n m:Nat} {v:List Int} (r:Rl) (h:LotB n m v) (he:ended v=false) (hm:m<=1999) (s:Sto):M_step [.str (nmR r),rD v] s=.ok (rD (stp r v)) s:=by
 have l4:=h.toLot.le4;have w:=z6T r h.toLot he s;have dv:=z8u r h he hm s;have Q:=h.q r he;have dl:=kg r h.toLot he;have ix:dIx (rD v) (.int ((deal r v).1:Nat)) s=.ok (.int (v.getD (deal r v).1 0)) s:=z5k s dl.lt;have mo:=zeF r (iL (left v (yy v (deal r v)) (deal r v).1)) (by simp [vf Q.len];omega) s;have key:∀ d e:D,e=rD v->wc [d,e] s=.ok .non s->wJ [d,e] s=.ok (.tup [.int ((deal r v).1:Nat),.lst (iL (yy v (deal r v)))]) s->jZ [d,.tup (iL (left v (yy v (deal r v)) (deal r v).1))] s=.ok (.tup (mvd r (iL (left v (yy v (deal r v)) (deal r v).1)))) s-> M_step [d,e] s=.ok (rD (stp r v)) s:=fun d e hd h1 h2 h3=>by
  have st:zq ["rule","lot","by","quotients","left"] [d,e]=[some d,some e,none,none,none]:=rfl;have ixe:dIx e (.int ((deal r v).1:Nat)) s=.ok (.int (v.getD (deal r v).1 0)) s:=by rw [hd];exact ix
  simp only [M_step,Mof,zax,st,_i,_l,_A];rw [zi (Z':=[some d,some e,none,none,none]) (s':=s) (by simp [h1])];rw [zi (Z':=[some d,some e,some (.int ((deal r v).1:Nat)),some (.lst (iL (yy v (deal r v)))),none]) (s':=s) (by simp [h2])];have ir:zdz (za (zc 1) (za (zc 3) zh)) [some d,some e,some (.int ((deal r v).1:Nat)),some (.lst (iL (yy v (deal r v)))),none] s=.ok ((v.zip (yy v (deal r v))).map fun p=>D.tup [.int p.1,.int p.2],[]) s:=by simp only [za0,zo,zG,yg,_e,_h,Rb,hd,z8Q,z7X,_a8]
  have c:=comp_map (mp:=[some 1,some 2,none,none]) (fg:=wz 2 3) (fe:=eOp z9B (zc 2) (eOp ve (zc 3) (eOp dIx (zc 0) (zc 1)))) (fun p:Int×Int=>D.tup [.int p.1,.int p.2]) (fun p:Int×Int=>D.int (p.1-p.2*v.getD (deal r v).1 0)) (fun p=>[some e,some (.int ((deal r v).1:Nat)),some (.int p.1),some (.int p.2)]) _ ir (fun p _=>by simp) (fun p hp=>by
    have hq:=zfV r h he p.2 (_bs hp).2;have ab:p.2.natAbs<2 ^ m:=by
     have e1:(p.2.natAbs:Int)=p.2:=_bU hq.1;have:(p.2.natAbs:Int)<((2 ^ m:Nat):Int):=by rw [e1];simpa using hq.2
     omega
    have mu:=zfT (a:=p.2) (b:=v.getD (deal r v).1 0) s ab (by omega) (h.abs _ (Pm.getD_mem dl.lt)) (by omega);simp only [yk,yg,_e,_h,Rb,ixe,mu,zcP]) (by simp [cap];omega);have el:(v.zip (yy v (deal r v))).map (fun p:Int×Int=>D.int (p.1-p.2*v.getD (deal r v).1 0))=iL (left v (yy v (deal r v)) (deal r v).1):=by
   unfold left;show _=List.map D.int _;rw [List.zip,List.map_zipWith,List.map_zipWith]
  rw [el] at c;rw [zi (Z':=[some d,some e,some (.int ((deal r v).1:Nat)),some (.lst (iL (yy v (deal r v)))),some (.tup (iL (left v (yy v (deal r v)) (deal r v).1)))]) (s':=s) (by
   rw [z8h,zW,yf,zo,c];simp only [Rb,zG,z84,_ac,_ab])];simp only [z7Q,yI,yf,zo,zG,yg,_e,_h,Rb,h3];rw [zfl];rfl
 exact key _ _ rfl w dv mo
theorem xu{M:Mir}{f:FE}{Z:Ev}{s:Sto}{x:D}(h:f Z s=.ok x s):ze M (za f zh) Z s=M [x] s:=by simp only [yf,zo,zG,h,Rb]
theorem call2{M:Mir}{f g:FE}{Z:Ev}{s:Sto}{x y:D}(h:f Z s=.ok x s)(h2:g Z s=.ok y s):ze M (za f (za g zh)) Z s=M [x,y] s:=by simp only [yf,zo,zG,h,h2,Rb]
theorem zgP{M:Mir}{f g k:FE}{Z:Ev}{s:Sto}{x y z:D}(h:f Z s=.ok x s)(h2:g Z s=.ok y s)(h3:k Z s=.ok z s):ze M (za f (za g (za k zh))) Z s=M [x,y,z] s:=by simp only [yf,zo,zG,h,h2,h3,Rb]
theorem op2{o:D->D->Sto->R D}{f g:FE}{Z:Ev}{s:Sto}{x y:D}(h:f Z s=.ok x s)(h2:g Z s=.ok y s):eOp o f g Z s=o x y s:=by simp only [yk,h,h2,Rb]
theorem z79{x d:D}{xs:List D}{s:Sto}(h:zO s x=some (xs++[d])):dIx x (.int (-1)) s=.ok d s:=by
 have e:ixN (xs++[d]).length (-1)=some xs.length:=by
  unfold ixN;rw [_o (by omega),_d (by simp;omega)];congr 1;simp;omega
 simp only [dIx,h,atI,e,_G];simp
theorem _root_.Pg.LotB.step{n m:Nat}{v:List Int}(r:Rl)(h:LotB n m v)(he:ended v=false):LotB n m (stp r v):=by
 refine ⟨h.toLot.step r he,fun x hx=>?_⟩;have:=zhA (B:=2 ^ m-1) r h.toLot he (fun y hy=>by have:=h.bd y hy;omega) x hx;omega
theorem zbF {n m:Nat} {r:Rl} {d e:D} (hd:d=.str (nmR r)) (hm:m<=1999) (s:Sto) {c:List Int} {ls:List (List Int)} (Rn:Run r c ls):∀ (pre:List (List Int)),LotB n m c->pre.length+ls.length<=50000-> wB (z2c (tOf (ze yt (za (eOp dIx (zc 2) (z9a (eC (.int 1)))) zh)))) z3Z (ls.length+1) [some d,some e,some (.loc s.length)] (s++[(pre++[c]).map rD])=.ok (.nx [some d,some e,some (.loc s.length)]) (s++[(pre++ls).map rD]):=by
 have tst:∀ (pre:List (List Int)) (c:List Int),LotB n m c->z2c (tOf (ze yt (za (eOp dIx (zc 2) (z9a (eC (.int 1)))) zh))) [some d,some e,some (.loc s.length)] (s++[(pre++[c]).map rD])=.ok (!ended c) (s++[(pre++[c]).map rD]):=fun pre c h=>by
  have ix:=z79 (x:=.loc s.length) (d:=rD c) (xs:=pre.map rD) (s:=s++[(pre++[c]).map rD]) (by simp [zO]);have hE:=z1x h.toLot (s++[(pre++[c]).map rD]);generalize (s++[(pre++[c]).map rD])=S at *;simp only [z12,vq,yf,zo,zG,yk,yg,zd2,kz,_e,_h,Rb];rw [ix];simp only [Rb];rw [hE];simp only [Rb]
 induction Rn with
 | @done v hend=>
  intro pre h hl;rw [wB,tst pre v h,hend];rfl | @step v ls hend Rn ih=>
  intro pre h hl;have ih:=ih (pre++[v]) (h.step r hend) (by simp at hl ⊢;omega);rw [_i,wB,tst pre v h,hend,Rb,_d (by rfl)];have stp':=zgE r h hend hm (s++[(pre++[v]).map rD]);rw [<- hd] at stp';have ix:=z79 (x:=.loc s.length) (d:=rD v) (xs:=pre.map rD) (s:=s++[(pre++[v]).map rD]) (by simp [zO]);have body:z3Z [some d,some e,some (.loc s.length)] (s++[(pre++[v]).map rD])=.ok (.nx [some d,some e,some (.loc s.length)]) (s++[(pre++[v]++[stp r v]).map rD]):=by
   have gt:(s++[(pre++[v]).map rD])[s.length]? = some ((pre++[v]).map rD):=by simp
   have st2:(s++[(pre++[v]).map rD]).set s.length ((pre++[v]).map rD++[rD (stp r v)])=s++[(pre++[v]++[stp r v]).map rD]:=by rw [_aw _ _ (by omega)];simp
   have fl:(rD (stp r v)).flat=true:=yh _;have ln:((pre++[v]).map rD).length<cap:=by simp [cap] at hl ⊢;omega
   generalize (s++[(pre++[v]).map rD])=S at *;simp only [z3Z,wI,z3C,yf,zo,zG,yk,yg,zd2,kz,_e,_h,Rb];rw [ix];simp only [Rb];rw [stp'];simp only [Rb];rw [gt];simp only;rw [_d ⟨fl,ln⟩,st2];rfl
  rw [body,Rb];simp only;rw [ih];simp
theorem zi2 {n m:Nat} {v:List Int} {ls:List (List Int)} (r:Rl) (h:LotB n m v) (Rn:Run r v ls) (hm:m<=1999) (hl:ls.length<=50000) (s:Sto):zbn [.str (nmR r),rD v] s=.ok (.loc s.length) (s++[ls.map rD]):=by
 have w:=z5b r h.toLot s;have fl:(rD v).flat=true:=yh _;have key:∀ d e:D,d=.str (nmR r)->e=rD v->zbn [d,e] s=.ok (.loc s.length) (s++[ls.map rD]):=fun d e hd he=>by
  have st:zq ["rule","lot","lots"] [d,e]=[some d,some e,none]:=rfl;have w':zB [d,e] s=.ok .non s:=by rw [hd,he];exact w
  have fe:e.flat=true:=by rw [he];exact fl
  simp only [zbn,Mof,zdt,st,_i,_l,_A];rw [zi (Z':=[some d,some e,none]) (s':=s) (by simp [w'])];rw [zi (Z':=[some d,some e,some (.loc s.length)]) (s':=s++[[e]]) (by
   simp only [z6Z,zW,z3z,zo,zG,yg,_h,_e,Rb];rw [_d ⟨by simp [cap],by simp [D.flat.flats,fe]⟩];rfl)];have lp:=zbF (e:=e) hd hm s Rn [] h (by simpa using hl);rw [_ao,_ao] at lp;rw [show ([v]:List (List Int)).map rD=[e] from by rw [he];rfl] at lp;rw [zi (Z':=[some d,some e,some (.loc s.length)]) (s':=s++[ls.map rD]) (by rw [z6P];exact z4y lp (by simp))];simp
 exact key _ _ rfl rfl
theorem zgY(T:Tb):(tD T).flat=true:=by
 show D.flat.flats (T.map rD)=true;induction T with
 | nil=>rfl | cons r T ih=>simp only [_w,D.flat.flats,ih,Bool.and_true];exact yh r
theorem zb2{i:Int}(h0:0<=i)(h:i<2 ^ 2000):i.natAbs<BIG:=by
 have e:(i.natAbs:Int)=i:=_bU h0;have k:(2:Int) ^ 2000<=(BIG:Int):=by decide +kernel
 exact Int.ofNat_lt.mp (_bv (by rw [e];exact h) k)
theorem jm{a b:Int}(s:Sto)(ha:0<=a)(ha':a<2 ^ 2000)(hb:0<=b)(hb':b<2 ^ 2000):ve (.int a) (.int b) s=.ok (.int (a*b)) s:=by rw [zcW,_d ⟨zb2 ha ha',zb2 hb hb'⟩]
theorem zac{a b:Int}(s:Sto)(hb:0<b)(hb':b<2 ^ 2000):z5t (.int a) (.int b) s=.ok (.int (a / b)) s:=by rw [zaq,_d ⟨hb,zb2 (by omega) hb'⟩]
theorem zgd(ns:List Int)(k:Nat)(s:Sto):∃ c,yT [.scr (iL ns),.int k] s=.ok (.int c) s:=by
 by_cases h:k<ns.length
 ·have hk:(k:Int)<ns.length:=by omega
  refine ⟨ns[k],?_⟩;have e:ixN (iL ns).length (k:Int)=some k:=by
   unfold ixN;rw [_d (by omega),_d (by simpa using hk)];simp
  have ix:dIx (.scr (iL ns)) (.int k) s=.ok (.int ns[k]) s:=by
   simp only [dIx,zO,atI,e,_G];simp [h]
  simp only [iL] at ix;simp [yT,Mof,vI,zq,xi,zO,hk,ix]
 ·have hk:¬ (k:Int)<ns.length:=by omega
  exact ⟨0,by simp [yT,Mof,vI,zq,xi,zO,hk]⟩
def Pot(s:Sto)(l:Nat):Prop:=∃ p:Int,s[l]? = some [.int p]
theorem Pot.lt{s:Sto}{l:Nat}(h:Pot s l):l<s.length:=by
 obtain ⟨p,e⟩:=h;exact (_c.mp e).1
theorem Pot.app{s:Sto}{l:Nat}(h:Pot s l)(t:Sto):Pot (s++t) l:=by
 obtain ⟨p,e⟩:=h;exact ⟨p,by rw [_v (_c.mp e).1];exact e⟩
structure vS(s s':Sto)(l:Nat):Prop where
 pot:Pot s' l
 len:s'.length=s.length
 oth:∀ m,m≠l->s'[m]? = s[m]?
theorem zhb{s:Sto}{l:Nat}{far:Int}(h:Pot s l)(h0:0<far)(h1:far<2 ^ 2000):∃ r s',zm [.loc l,.int far] s=.ok (.int r) s'/\0<=r/\r<far/\vS s s' l:=by
 obtain ⟨p,e⟩:=h;have hl:l<s.length:=(_c.mp e).1;refine ⟨p % far,s.set l [.int (p / far)],?_,_aP _ (by omega),_a6 _ h0,⟨p / far,by rw [_P hl]⟩,by simp,fun m hm=>_K (_aE hm)⟩;have ix:dIx (.loc l) (.int 0) s=.ok (.int p) s:=by simp [dIx,zO,e,atI,ixN]
 simp [zm,Mof,z0Q,zq,ix,z7C s h0,zac s h0 h1,e,ixN,kO,List.replicate]
theorem zgk(s:Sto):z7R (.int 10) (.int 18) s=.ok (.int 1000000000000000000) s:=by rw [zaJ];rfl
theorem zjR(s:Sto):z7R (.int 10) (.int 6) s=.ok (.int 1000000) s:=by rw [zaJ];rfl
theorem pow_step{m r j:Nat}(h:m<2147483648 ^ j)(hr:r<2147483587):m*2147483587+r<2147483648 ^ (j+1):=by
 rw [Nat.pow_succ];generalize 2147483648 ^ j=B at h;omega
theorem zh1{m j:Nat}(h:m<2147483648 ^ j)(hj:j<=64):(m:Int)<2 ^ 2000:=by
 have h1:2147483648 ^ j<=2147483648 ^ 64:=_ad (by decide) hj;have h2:2147483648 ^ 64<=2 ^ 2000:=by decide +kernel
 have h3:m<2 ^ 2000:=_q h (_R h1 h2);have h4:((2 ^ 2000:Nat):Int)=2 ^ 2000:=by decide +kernel
 rw [<- h4];exact Int.ofNat_lt.mpr h3
theorem ziE (c:Int) (s:Sto):∃ p:Int,vy [.int c] s=.ok (.loc s.length) (s++[[.int p]]):=by
 by_cases h:1000000000000000000<=c;·exact ⟨c-1000000000000000000,by simp [vy,Mof,km,zq,zgk,h,D.flat.flats,kO,cap,List.replicate]⟩
 ·have lp:∃ Z' s',z0K [some (.int c),some (.int 0),none,none] s=.ok (.nx Z') s'/\∃ (m:Nat) (a b:Option D),Z'=[some (.int c),some (.int m),a,b]/\s'=s:=by
   obtain ⟨Z',s',e,m,a,b,e1,e2,_⟩:=z8d (all:=xO 64) (body:=fun d Z s=>(vw 2 d Z s).bind fun Z' s'=>(zy z0L (zy z0A z0P)) Z' s') (fun j Z s'=>∃ (m:Nat) (a b:Option D),Z=[some (.int c),some (.int m),a,b]/\s'=s/\m<2147483648 ^ j) (xO 64) 0 (fun j x hx Z s' hi=>by
    obtain ⟨m,a,b,rfl,rfl,hm⟩:=hi;obtain ⟨hj,rfl⟩:=z61 hx;rw [_ay] at hm;have r0:=_aP c (show (2147483629:Int)≠0 by decide);have r1:=_a6 c (show (0:Int)<2147483629 by decide);have a1:zal (.int c) (.int 2147483629) s'=.ok (.int (c % 2147483629)) s':=z7C s' (by decide);have a2:ve (.int 7919) (.int j) s'=.ok (.int (7919*j)) s':=jm s' (by decide) (by decide +kernel) (by omega) (by omega);have a3:ve (.int (c % 2147483629+7919*j+1)) (.int 48271) s'=.ok (.int ((c % 2147483629+7919*j+1)*48271)) s':=jm s' (by omega) (by omega) (by decide) (by decide +kernel);generalize hx1:(c % 2147483629+7919*(j:Int)+1)*48271 % 2147483647=x1;have b0:0<=x1:=by rw [<- hx1];exact _aP _ (by decide)
    have b1:x1<2147483647:=by rw [<- hx1];exact _a6 _ (by decide)
    have a4:zal (.int ((c % 2147483629+7919*j+1)*48271)) (.int 2147483647) s'=.ok (.int x1) s':=by rw [<- hx1];exact z7C s' (by decide)
    have a5:ve (.int x1) (.int x1) s'=.ok (.int (x1*x1)) s':=jm s' b0 (by omega) b0 (by omega);have a6:ve (.int 69621) (.int j) s'=.ok (.int (69621*j)) s':=jm s' (by decide) (by decide +kernel) (by omega) (by omega);generalize hx2:(x1*x1+69621*(j:Int)+7) % 2147483587=x2;have c0:0<=x2:=by rw [<- hx2];exact _aP _ (by decide)
    have c1:x2<2147483587:=by rw [<- hx2];exact _a6 _ (by decide)
    have a7:zal (.int (x1*x1+69621*j+7)) (.int 2147483587) s'=.ok (.int x2) s':=by rw [<- hx2];exact z7C s' (by decide)
    have a8:ve (.int m) (.int 2147483587) s'=.ok (.int (m*2147483587)) s':=jm s' (by omega) (zh1 hm (by omega)) (by decide) (by decide +kernel);obtain ⟨y,rfl⟩:=Int.eq_ofNat_of_zero_le c0;refine ⟨[some (.int c),some (.int ((m*2147483587+y:Nat):Int)),some (.int j),some (.int y)],s',?_,m*2147483587+y,_,_,rfl,rfl,?_⟩;·simp [a1,a2,a3,a4,a5,a6,a7,a8]
    ·rw [_ay];exact pow_step hm (by omega)) [some (.int c),some (.int 0),none,none] s ⟨0,none,none,rfl,rfl,by decide⟩;exact ⟨Z',s',by simpa using e,m,a,b,e1,e2⟩
  obtain ⟨Z',s',e,m,a,b,rfl,rfl⟩:=lp;refine ⟨m,?_⟩;have st:zq ["_law_cell","_law_number","_law_j","_law_more"] [.int c]=[some (.int c),none,none,none]:=rfl;simp only [vy,Mof,km,st,_i,_l,_A];rw [zi (Z':=[some (.int c),none,none,none]) (s':=s') (by simp [zgk,h])];rw [zi (Z':=[some (.int c),some (.int 0),none,none]) (s':=s') (by simp)];rw [zi e];simp [D.flat.flats,kO,cap]
theorem z5x{α:Type}{gd:List (Nat×List D)}{all:List D}{s:Sto}{body:D->Sto->R (Option D)}(hg:okG gd all s)(g f:α->D):∀ (l:List α)(acc:List D),(∀ a∈l,body (g a) s=.ok (some (f a)) s)->acc.length+l.length<=cap->wq gd all body (l.map g) acc s=.ok (acc++l.map f) s
 | [],acc,_,_=>by simp [wq,hg] | x::xs,acc,hb,hl=>by
  have ih:=z5x (all:=all) hg g f xs (acc++[f x]) (fun y hy=>hb y (by simp [hy])) (by simp at hl ⊢;omega);have hc:acc.length<cap:=by simp at hl;omega
  rw [_w,wq,_d hg,hb x (by simp)];simp [hc,ih]
structure LS(s0:Sto)(l:Nat)(s:Sto)(xs:List Int):Prop where
 pot:Pot s l
 len:s.length=s0.length+1
 at_:s[s0.length]? = some (iL xs)
 oth:∀ m,m≠l->m<s0.length->s[m]? = s0[m]?
theorem LS.drawn{s0 s s':Sto}{l:Nat}{xs:List Int}(h:LS s0 l s xs)(hl:l<s0.length)(d:vS s s' l):LS s0 l s' xs:= ⟨d.pot,by rw [d.len,h.len],by rw [d.oth _ (by omega)];exact h.at_,fun m h1 h2=>by rw [d.oth m h1];exact h.oth m h1 h2⟩
theorem LS.set{s0 s:Sto}{l:Nat}{xs:List Int}(h:LS s0 l s xs)(hl:l<s0.length)(ys:List Int):LS s0 l (s.set s0.length (iL ys)) ys:=by
 refine ⟨?_,by simp [h.len],_P (by rw [h.len];omega),fun m h1 h2=>?_⟩
 ·obtain ⟨p,e⟩:=h.pot;exact ⟨p,by rw [_K (by omega)];exact e⟩
 ·rw [_K (by omega)];exact h.oth m h1 h2
theorem LS.fin{s0 s:Sto}{l:Nat}{xs:List Int}(h:LS s0 l s xs)(hl:l<s0.length):vS s0 (s.take s0.length) l:=by
 obtain ⟨p,e⟩:=h.pot;refine ⟨⟨p,by rw [_an hl];exact e⟩,by simp [h.len],fun m h1=>?_⟩;by_cases h2:m<s0.length;·rw [_an h2];exact h.oth m h1 h2
 ·rw [_al (by simp [h.len];omega),_al (by omega)]
theorem LS.start{s0 s:Sto}{l:Nat}(d:vS s0 s l)(h:Pot s0 l)(xs:List Int):LS s0 l (s++[iL xs]) xs:= ⟨d.pot.app _,by simp [d.len],by rw [<- d.len];simp,fun m h1 h2=>by rw [_v (by rw [d.len];exact h2)];exact d.oth m h1⟩
theorem vS.trans{s s1 s2:Sto}{l:Nat}(a:vS s s1 l)(b:vS s1 s2 l):vS s s2 l:=⟨b.pot,by rw [b.len,a.len],fun m h=>by rw [b.oth m h,a.oth m h]⟩
theorem wP{s:Sto}{l:Nat}{far:Int}{f g:FE}{Z:Ev}(h:Pot s l)(h0:0<far)(h1:far<2 ^ 2000)(hf:f Z s=.ok (.loc l) s)(hg:g Z s=.ok (.int far) s):∃ r s',ze zm (za f (za g zh)) Z s=.ok (.int r) s'/\0<=r/\r<far/\vS s s' l:=by
 obtain ⟨r,s',e,a,b,c⟩:=zhb h h0 h1;exact ⟨r,s',by rw [call2 hf hg,e],a,b,c⟩
theorem zdT(s:Sto):z7R (.int 10) (.int 30) s=.ok (.int 1000000000000000000000000000000) s:=by rw [zaJ];rfl
theorem va{xs:List D}{i:Int}{d:D}{s:Sto}(h0:0<=i)(h:xs[i.toNat]? = some d):dIx (.lst xs) (.int i) s=.ok d s:=by
 have hj:i.toNat<xs.length:=(_c.mp h).1;have e:ixN xs.length i=some i.toNat:=by
  unfold ixN;rw [_d h0,_d (by omega)]
 simp only [dIx,zO,atI,e,_G,h]
theorem z7w{xs:List D}{l:Nat}{i:Int}{d:D}{s:Sto}(hl:s[l]? = some xs)(h0:0<=i)(h:xs[i.toNat]? = some d):dIx (.loc l) (.int i) s=.ok d s:=by
 have hj:i.toNat<xs.length:=(_c.mp h).1;have e:ixN xs.length i=some i.toNat:=by
  unfold ixN;rw [_d h0,_d (by omega)]
 simp only [dIx,zO,hl,atI,e,_G,h]
theorem zh6{fa fb:FE}{Z:Ev}{s s2:Sto}{L:Nat}{xs:List Int}{x:Int}(ha:fa Z s=.ok (.loc L) s)(hb:fb Z s=.ok (.int x) s2)(at_:s2[L]? = some (iL xs))(hl:xs.length<1000):vm (zai fa fb) Z s=.ok (.nx Z) (s2.set L (iL (xs++[x]))):=by
 rw [wI,z3C,ha,Rb];simp only;rw [hb,Rb];simp only [at_];rw [_d ⟨kO x,by simp [cap];omega⟩];simp
theorem z1B{fa fb fc:FE}{Z:Ev}{s s1 s2:Sto}{L:Nat}{xs:List Int}{i x:Int}(hc:fc Z s=.ok (.int x) s1)(ha:fa Z s1=.ok (.loc L) s1)(hb:fb Z s1=.ok (.int i) s2)(at_:s2[L]? = some (iL xs))(h0:0<=i)(h1:i<xs.length):z2U fa fb fc Z s=.ok (.nx Z) (s2.set L (iL (xs.set i.toNat x))):=by
 have e:ixN (iL xs).length i=some i.toNat:=by
  unfold ixN;rw [_d h0,_d (by simp;omega)]
 rw [zf4,hc,Rb,ha,Rb,hb,Rb];simp only [at_,e,kO,_A,iL,List.map_set]
theorem zbb{xs:List Int}{i:Nat}{x B:Int}(h:∀ y∈xs,0<=y/\y<=B)(hx:0<=x/\x<=B):∀ y∈xs.set i x,0<=y/\y<=B:=fun y hy=>by
 rcases _bj hy with h2 | h2;·exact h y h2
 ·rw [h2];exact hx
theorem zeD{r:Int}(s:Sto)(h0:0<=r)(h1:r<6):∃ far:Int,dIx (.lst [.int 13,.int 1000,.int 1000000,.int 1000000000000000000000000000000,.int 3,.int 60]) (.int r) s=.ok (.int far) s/\3<=far/\far<=1000000000000000000000000000000:=by
 have:r=0\/r=1\/r=2\/r=3\/r=4\/r=5:=by omega
 rcases this with rfl | rfl | rfl | rfl | rfl | rfl;·exact ⟨13,va (by decide) rfl,by decide,by decide⟩
 ·exact ⟨1000,va (by decide) rfl,by decide,by decide⟩
 ·exact ⟨1000000,va (by decide) rfl,by decide,by decide⟩
 ·exact ⟨1000000000000000000000000000000,va (by decide) rfl,by decide,by decide⟩
 ·exact ⟨3,va (by decide) rfl,by decide,by decide⟩
 ·exact ⟨60,va (by decide) rfl,by decide,by decide⟩
theorem bB:(1000000000000000000000000000000:Int)<2 ^ 2000:=by decide +kernel
theorem jh{x:Int}(h:x<=1000):x<2 ^ 2000:=_a7 h (by decide +kernel)
theorem z85 {s0:Sto} {l:Nat} {far thin:Int} (hl:l<s0.length) (f0:3<=far) (f1:far<=1000000000000000000000000000000) (a1:Option D):∀ (k j:Nat) (all:List D) (s:Sto) (xs:List Int) (p q:Option D),LS s0 l s xs->(∀ y∈xs,0<=y/\y<=1000000000000000000000000000000)->xs.length=j->j+k<=4-> ∃ s' ys p' q',xG [] all (fun d Z s=>(vw 5 d Z s).bind fun Z' s'=>(zy vV ui) Z' s') ((List.range' j k).map fun i=>D.int ((i:Nat):Int)) [some (.loc l),a1,some (.int far),some (.int thin),some (.loc s0.length),p,q,none] s=.ok (.nx [some (.loc l),a1,some (.int far),some (.int thin),some (.loc s0.length),p',q',none]) s'/\LS s0 l s' ys/\(∀ y∈ys,0<=y/\y<=1000000000000000000000000000000)/\ys.length=j+k
 | 0,j,all,s,xs,p,q,h,hx,hj,_=>⟨s,xs,p,q,by simp [xG,okG],h,hx,by omega⟩ | k+1,j,all,s,xs,p,q,h,hx,hj,hk=>by
  obtain ⟨r1,s1,e1,r1a,r1b,d1⟩:=wP (Z:=[some (.loc l),a1,some (.int far),some (.int thin),some (.loc s0.length),some (.int j),q,none]) (f:=zc 0) (g:=zc 2) h.pot (by omega) (_a7 f1 bB) (by simp) (by simp);have h1:=h.drawn hl d1;obtain ⟨r2,s2,e2,r2a,r2b,d2⟩:=wP (Z:=[some (.loc l),a1,some (.int far),some (.int thin),some (.loc s0.length),some (.int j),some (.int (r1+1)),none]) (f:=zc 0) (g:=eC (.int 4)) (far:=4) h1.pot (by decide) (jh (by decide)) (by simp) (by simp);have h2:=h1.drawn hl d2;have hv:∃ x:Int,ve (.int (r1+1)) (.int (if decide (thin<=r2)=true then 1 else 0)) s2=.ok (.int x) s2/\0<=x/\x<=1000000000000000000000000000000:=by
   refine ⟨(r1+1)*(if decide (thin<=r2)=true then 1 else 0),jm s2 (by omega) (_a7 (show r1+1<=1000000000000000000000000000000 by omega) bB) (by split<;>decide) (by split<;>exact jh (by decide)),?_⟩;split<;>omega
  obtain ⟨x,ex,x0,x1⟩:=hv;have h3:=h2.set hl (xs++[x]);obtain ⟨s',ys,p',q',e3,h4,y4,l4⟩:=z85 hl f0 f1 a1 k (j+1) all (s2.set s0.length (iL (xs++[x]))) (xs++[x]) (some (.int j)) (some (.int (r1+1))) h3 (by
   intro y hy;rcases _ag.mp hy with hy | hy;·exact hx y hy
   ·simp at hy;subst hy;exact ⟨x0,x1⟩) (by simp [hj]) (by omega);refine ⟨s',ys,p',q',?_,h4,y4,by omega⟩;have b1:vV [some (.loc l),a1,some (.int far),some (.int thin),some (.loc s0.length),some (.int j),q,none] s=.ok (.nx [some (.loc l),a1,some (.int far),some (.int thin),some (.loc s0.length),some (.int j),some (.int (r1+1)),none]) s1:=by
   rw [vV,zW,yk,e1];simp
  have b2:ui [some (.loc l),a1,some (.int far),some (.int thin),some (.loc s0.length),some (.int j),some (.int (r1+1)),none] s1=.ok (.nx [some (.loc l),a1,some (.int far),some (.int thin),some (.loc s0.length),some (.int j),some (.int (r1+1)),none]) (s2.set s0.length (iL (xs++[x]))):=by
   have ev:eOp ve (zc 6) (ze zbf (za (eOp dGe (ze zm (za (zc 0) (za (eC (.int 4)) zh))) (zc 3)) zh)) [some (.loc l),a1,some (.int far),some (.int thin),some (.loc s0.length),some (.int j),some (.int (r1+1)),none] s1=.ok (.int x) s2:=by
    have g:ze zbf (za (eOp dGe (ze zm (za (zc 0) (za (eC (.int 4)) zh))) (zc 3)) zh) [some (.loc l),a1,some (.int far),some (.int thin),some (.loc s0.length),some (.int j),some (.int (r1+1)),none] s1=.ok (.int (if decide (thin<=r2)=true then 1 else 0)) s2:=by
     rw [yf,zo,yk,e2];simp only [Rb,yg,_e,_h,zil,zG,zbf]
    rw [yk];simp only [yg,_e,_h,Rb];rw [g,Rb,ex]
   rw [ui];exact zh6 (by simp) ev h2.at_ (by omega)
  rw [_cO,_w,xG,_d (by intro p hp;simp at hp),z3w,Rb];simp only [_ac,_ab];rw [z4Y,b1,Rb];simp only;rw [b2,Rb];simp only;exact e3
theorem zc8{v:List Int}{n:Nat}{s:Sto}:z8p n (.ok (rD v) s)=.ok (rD v) (s.take n):=z3j (yh v)
theorem zah{ns:List Int}{L:Nat}{s:Sto}{f:FE}{Z:Ev}(h:ns≠[])(e:s[L]? = some (iL ns))(hf:f Z s=.ok (.loc L) s):tOf (eOp dEq (ze wR (za f zh)) (eC (.int 0))) Z s=.ok (decide (maxL ns=0)) s:=by
 rw [vq,yk,xu hf,zc5 h e];simp
theorem z99{ns:List Int}(h:ns≠[])(hn:∀ y∈ns,0<=y)(hm:maxL ns≠0):∃ x∈ns,0<x:=⟨maxL ns,maxL_mem h,by have:=hn _ (maxL_mem h);omega⟩
theorem ziT {s:Sto} {l:Nat} (h:Pot s l):∃ n v s',uI [.loc l] s=.ok (rD v) s'/\LotB n 104 v/\vS s s' l:=by
 have hl:=h.lt;have st:zq ["_law_pot_here","_law_size","_law_far","_law_thin","_law_numbers","_law_place","_law_number","_law_more"] [.loc l]=[some (.loc l),none,none,none,none,none,none,none]:=rfl;obtain ⟨r1,s1,e1,a1,b1,d1⟩:=wP (Z:=[some (.loc l),none,none,none,none,none,none,none]) (f:=zc 0) (g:=eC (.int 3)) (far:=3) h (by decide) (jh (by decide)) (by simp) (by simp);obtain ⟨n,hn⟩:∃ n:Nat,2+r1=(n:Int):=⟨(2+r1).toNat,by omega⟩;have hsz:Sz n:=by unfold Sz;omega
 have p1:jn [some (.loc l),none,none,none,none,none,none,none] s=.ok (.nx [some (.loc l),some (.int n),none,none,none,none,none,none]) s1:=by
  rw [jn,zW,yk,kz,Rb,e1];simp [hn]
 obtain ⟨r2,s2,e2,a2,b2,d2⟩:=wP (Z:=[some (.loc l),some (.int n),none,none,none,none,none,none]) (f:=zc 0) (g:=eC (.int 6)) (far:=6) d1.pot (by decide) (jh (by decide)) (by simp) (by simp);obtain ⟨far,ef,f0,f1⟩:=zeD s2 a2 b2;have p2:ji [some (.loc l),some (.int n),none,none,none,none,none,none] s1=.ok (.nx [some (.loc l),some (.int n),some (.int far),none,none,none,none,none]) s2:=by
  rw [ji,zW,yk];have:jO (za (eC (.int 13)) (za (eC (.int 1000)) (za (eOp z7R (eC (.int 10)) (eC (.int 6))) (za (eOp z7R (eC (.int 10)) (eC (.int 30))) (za (eC (.int 3)) (za (eC (.int 60)) zh)))))) [some (.loc l),some (.int n),none,none,none,none,none,none] s1=.ok (.lst [.int 13,.int 1000,.int 1000000,.int 1000000000000000000000000000000,.int 3,.int 60]) s1:=by
   simp only [z0O,zo,zG,kz,yk,Rb,zjR,zdT];rw [_d (by simp [cap])]
  rw [this,Rb,e2,Rb,ef];simp
 obtain ⟨thin,s3,e3,a3,b3,d3⟩:=wP (Z:=[some (.loc l),some (.int n),some (.int far),none,none,none,none,none]) (f:=zc 0) (g:=eC (.int 4)) (far:=4) d2.pot (by decide) (jh (by decide)) (by simp) (by simp);have p3:jd [some (.loc l),some (.int n),some (.int far),none,none,none,none,none] s2=.ok (.nx [some (.loc l),some (.int n),some (.int far),some (.int thin),none,none,none,none]) s3:=by
  rw [jd,zW,e3];simp
 have dd:=(d1.trans d2).trans d3;have p4:jk [some (.loc l),some (.int n),some (.int far),some (.int thin),none,none,none,none] s3=.ok (.nx [some (.loc l),some (.int n),some (.int far),some (.int thin),some (.loc s.length),none,none,none]) (s3++[iL []]):=by
  rw [jk,zW,z3z,zG,Rb,_d ⟨by simp,rfl⟩,dd.len];simp
 have L0:=LS.start dd h [];obtain ⟨s5,xs,p',q',e5,L5,x5,n5⟩:=z85 (thin:=thin) hl f0 f1 (some (.int n)) n 0 (xO n) (s3++[iL []]) [] none none L0 (by simp) rfl (by unfold Sz at hsz;omega);have p5:qV [some (.loc l),some (.int n),some (.int far),some (.int thin),some (.loc s.length),none,none,none] (s3++[iL []])=.ok (.nx [some (.loc l),some (.int n),some (.int far),some (.int thin),some (.loc s.length),p',q',none]) s5:=by
  rw [qV,z11,z9P (n:=n) (s1:=s3++[iL []]) (by unfold Sz at hsz;omega) (by simp),Rb];rw [show (xO n)=(List.range' 0 n).map (fun i=>D.int ((i:Nat):Int)) from by rw [xO,List.range_eq_range']] at e5 ⊢;exact e5
 rw [_ay] at n5;have ne5:xs≠[]:=fun z=>by rw [z] at n5;simp at n5;unfold Sz at hsz;omega
 have s8:∃ s6 ys,ua [some (.loc l),some (.int n),some (.int far),some (.int thin),some (.loc s.length),p',q',none] s5=.ok (.nx [some (.loc l),some (.int n),some (.int far),some (.int thin),some (.loc s.length),p',q',none]) s6/\LS s l s6 ys/\(∀ y∈ys,0<=y/\y<=1000000000000000000000000000000)/\ys.length=n:=by
  have t:=zah (f:=zc 4) (Z:=[some (.loc l),some (.int n),some (.int far),some (.int thin),some (.loc s.length),p',q',none]) ne5 L5.at_ (by simp);by_cases z:maxL xs=0
  ·obtain ⟨ra,sa,ea,aa,ba,da⟩:=wP (Z:=[some (.loc l),some (.int n),some (.int far),some (.int thin),some (.loc s.length),p',q',none]) (f:=zc 0) (g:=zc 2) (far:=far) L5.pot (by omega) (_a7 f1 bB) (by simp) (by simp);have La:=L5.drawn hl da;obtain ⟨rb,sb,eb,ab,bb,db⟩:=wP (Z:=[some (.loc l),some (.int n),some (.int far),some (.int thin),some (.loc s.length),p',q',none]) (f:=zc 0) (g:=zc 1) (far:=n) La.pot (by unfold Sz at hsz;omega) (jh (by unfold Sz at hsz;omega)) (by simp) (by simp);have Lb:=La.drawn hl db;refine ⟨_,_,?_,Lb.set hl (xs.set rb.toNat (1+ra)),zbb x5 (by omega),by simp [n5]⟩;rw [ua,z1a,t,Rb,_d (by simpa using z),z0s];exact z1B (by rw [yk,kz,Rb,ea];simp) (by simp) eb Lb.at_ ab (by omega)
  ·refine ⟨s5,xs,?_,L5,x5,n5⟩;rw [ua,z1a,t,Rb,_o (by simpa using z)];rfl
 obtain ⟨s6,ys,p8,L6,x6,n6⟩:=s8;obtain ⟨r7,s7,e7,a7,b7,d7⟩:=wP (Z:=[some (.loc l),some (.int n),some (.int far),some (.int thin),some (.loc s.length),p',q',none]) (f:=zc 0) (g:=eC (.int 12)) (far:=12) L6.pot (by decide) (jh (by decide)) (by simp) (by simp);have L7:=L6.drawn hl d7;have p10:qr [some (.loc l),some (.int n),some (.int far),some (.int thin),some (.loc s.length),p',q',none] s6=.ok (.nx [some (.loc l),some (.int n),some (.int far),some (.int thin),some (.loc s.length),p',q',some (.int (1+r7))]) s7:=by
  rw [qr,zW,yk,kz,Rb,e7];simp
 have s11:∃ s8 zs,vt [some (.loc l),some (.int n),some (.int far),some (.int thin),some (.loc s.length),p',q',some (.int (1+r7))] s7=.ok (.nx [some (.loc l),some (.int n),some (.int far),some (.int thin),some (.loc s.length),p',q',some (.int (1+r7))]) s8/\LS s l s8 zs/\(∀ y∈zs,0<=y/\y<=1000000000000000000000000000000)/\zs.length=n:=by
  obtain ⟨rt,st,et,_,_,dt⟩:=wP (Z:=[some (.loc l),some (.int n),some (.int far),some (.int thin),some (.loc s.length),p',q',some (.int (1+r7))]) (f:=zc 0) (g:=eC (.int 3)) (far:=3) L7.pot (by decide) (jh (by decide)) (by simp) (by simp);have Lt:=L7.drawn hl dt;have t:tOf (eOp dEq (ze zm (za (zc 0) (za (eC (.int 3)) zh))) (eC (.int 0))) [some (.loc l),some (.int n),some (.int far),some (.int thin),some (.loc s.length),p',q',some (.int (1+r7))] s7=.ok (decide (rt=0)) st:=by rw [vq,yk,et];simp
  by_cases z:rt=0
  ·obtain ⟨ra,sa,ea,aa,ba,da⟩:=wP (Z:=[some (.loc l),some (.int n),some (.int far),some (.int thin),some (.loc s.length),p',q',some (.int (1+r7))]) (f:=zc 0) (g:=zc 1) (far:=n) Lt.pot (by unfold Sz at hsz;omega) (jh (by unfold Sz at hsz;omega)) (by simp) (by simp);have La:=Lt.drawn hl da;obtain ⟨rb,sb,eb,ab,bb,db⟩:=wP (Z:=[some (.loc l),some (.int n),some (.int far),some (.int thin),some (.loc s.length),p',q',some (.int (1+r7))]) (f:=zc 0) (g:=zc 1) (far:=n) La.pot (by unfold Sz at hsz;omega) (jh (by unfold Sz at hsz;omega)) (by simp) (by simp);have Lb:=La.drawn hl db;have hra:ra.toNat<ys.length:=by omega
   have ix:=z7w (d:=.int ys[ra.toNat]) La.at_ aa (by simp [hra]);have my:=x6 ys[ra.toNat] (_V hra);refine ⟨_,_,?_,Lb.set hl (ys.set rb.toNat ys[ra.toNat]),zbb x6 my,by simp [n6]⟩;rw [vt,z1a,t,Rb,_d (by simpa using z),kF];exact z1B (by
    rw [yk];simp only [yg,_e,_h,Rb];rw [ea,Rb];exact ix) (by simp) eb Lb.at_ ab (by omega)
  ·refine ⟨st,ys,?_,Lt,x6,n6⟩;rw [vt,z1a,t,Rb,_o (by simpa using z)];rfl
 obtain ⟨s8,zs,p11,L8,x8,n8⟩:=s11;have ne8:zs≠[]:=fun z=>by rw [z] at n8;simp at n8;unfold Sz at hsz;omega
 have s13:∃ s9 ws,vj [some (.loc l),some (.int n),some (.int far),some (.int thin),some (.loc s.length),p',q',some (.int (1+r7))] s8=.ok (.nx [some (.loc l),some (.int n),some (.int far),some (.int thin),some (.loc s.length),p',q',some (.int (1+r7))]) s9/\LS s l s9 ws/\(∀ y∈ws,0<=y/\y<=1000000000000000000000000000000)/\ws.length=n/\∃ x∈ws,0<x:=by
  have t:=zah (f:=zc 4) (Z:=[some (.loc l),some (.int n),some (.int far),some (.int thin),some (.loc s.length),p',q',some (.int (1+r7))]) ne8 L8.at_ (by simp);by_cases z:maxL zs=0
  ·refine ⟨_,_,?_,L8.set hl (zs.set (0:Int).toNat 1),zbb x8 (by omega),by simp [n8],1,?_,by decide⟩
   ·rw [vj,z1a,t,Rb,_d (by simpa using z),kG];exact z1B (s1:=s8) (s2:=s8) (L:=s.length) (i:=0) (x:=1) (by simp) (by simp) (by simp) L8.at_ (by decide) (by unfold Sz at hsz;omega)
   ·exact List.mem_set (by unfold Sz at hsz;omega) _
  ·refine ⟨s8,zs,?_,L8,x8,n8,z99 ne8 (fun y hy=>(x8 y hy).1) z⟩;rw [vj,z1a,t,Rb,_o (by simpa using z)];rfl
 obtain ⟨s9,ws,p13,L9,x9,n9,w9⟩:=s13;have hk:(0:Int)<1+r7:=by omega
 refine ⟨n,scl (1+r7) ws,s9.take s.length,?_,⟨⟨hsz,by rw [zfk hk,n9],fun x hx=>?_,?_⟩,fun x hx=>?_⟩,L9.fin hl⟩
 ·simp only [uI,za4,Mof,z1W,st,_i,_l,_A];rw [zi p1,zi p2,zi p3,zi p4,zi p5,zi p8,zi p10,zi p11,zi p13];have c:zT (wU (zc 4)) [some 7,none] (vw 1) wS (eOp ve (zc 1) (zc 0)) [some (.loc l),some (.int n),some (.int far),some (.int thin),some (.loc s.length),p',q',some (.int (1+r7))] s9=.ok (.lst (iL (scl (1+r7) ws))) s9:=by
   rw [jF,jp,z9R];simp only [yg,_e,_h,Rb,L9.at_];rw [z5x (by
    intro p hp;simp at hp;subst hp;exact L9.at_) D.int (fun y=>D.int (y*(1+r7))) ws [] (by
    intro y hy;have mm:=jm (a:=y) (b:=1+r7) s9 (x9 y hy).1 (_a7 (x9 y hy).2 bB) (by omega) (jh (by omega));simp [mm]) (by unfold Sz at hsz;simp [cap];omega)];simp [scl,_bc]
  rw [z03,yI,xu c,z84];simp only [Rb];exact zc8
 ·obtain ⟨y,hy,rfl⟩:=_ap.mp hx;exact Int.mul_nonneg (x9 y hy).1 (by omega)
 ·obtain ⟨y,hy,h0⟩:=w9;exact ⟨y*(1+r7),(zfp hk).mpr hy,Int.mul_pos h0 hk⟩
 ·obtain ⟨y,hy,rfl⟩:=_ap.mp hx;have b:=x9 y hy;have m1:y*(1+r7)<=1000000000000000000000000000000*(1+r7):=Int.mul_le_mul_of_nonneg_right b.2 (by omega);have:(2:Int) ^ 104=20282409603651670423947251286016:=by decide
  omega
def okD:Nat->D->Bool
 | _,.non=>true | _,.bl _=>true | _,.int _=>true | _,.str x=>PyData.strOk x | k+1,.tup xs=>xs.all (okD k) | k+1,.lst xs=>xs.all (okD k) | _,_=>false
theorem ziz{k:Nat}:∀ (xs:List D),(∀ x∈xs,PyData.canLay0 (vO x)=true/\PyData.depth (vO x)<=2*k+3/\PyData.eqv (vO x) (vO x)=true)->PyData.canLayAll0 (toPys xs)=true/\PyData.depthAll (toPys xs)<=2*k+4/\PyData.eqvAll (toPys xs) (toPys xs)=true
 | [],_=>⟨rfl,by simp [toPys,PyData.depthAll],by simp [toPys,PyData.eqvAll]⟩ | x::xs,h=>by
  have h1:=h x (by simp);have h2:=ziz xs fun y hy=>h y (by simp [hy]);refine ⟨by simp [toPys,PyData.canLayAll0,h1.1,h2.1],?_,by simp [toPys,PyData.eqvAll,h1.2.2,h2.2.2]⟩;simp only [toPys,PyData.depthAll];omega
theorem zaC:∀ (k:Nat)(d:D),okD k d=true->PyData.canLay0 (vO d)=true/\PyData.depth (vO d)<=2*k+3/\PyData.eqv (vO d) (vO d)=true:=by
 intro k;induction k with
 | zero=>
  intro d h;cases d with
  | str x=>simp only [okD] at h;simp [vO,PyData.canLay0,PyData.depth,PyData.eqv,h] | non=>simp [vO,PyData.canLay0,PyData.depth,PyData.eqv] | bl b=>simp [vO,PyData.canLay0,PyData.depth,PyData.eqv] | int i=>simp [vO,PyData.canLay0,PyData.depth,PyData.eqv] | _=>simp [okD] at h
 | succ k ih=>
  intro d h;cases d with
  | str x=>simp only [okD] at h;simp [vO,PyData.canLay0,PyData.depth,PyData.eqv,h] | non=>simp [vO,PyData.canLay0,PyData.depth,PyData.eqv] | bl b=>simp [vO,PyData.canLay0,PyData.depth,PyData.eqv] | int i=>simp [vO,PyData.canLay0,PyData.depth,PyData.eqv] | tup xs=>
   simp only [okD,_L] at h;have q:=ziz (k:=k) xs fun x hx=>ih x (h x hx);refine ⟨by simp only [vO,PyData.canLay0,q.1],?_,by simp only [vO,PyData.eqv,q.2.2]⟩;simp only [vO,PyData.depth];omega | lst xs=>
   simp only [okD,_L] at h;have q:=ziz (k:=k) xs fun x hx=>ih x (h x hx);refine ⟨by simp only [vO,PyData.canLay0,q.1],?_,by simp only [vO,PyData.eqv,q.2.2]⟩;simp only [vO,PyData.depth];omega | _=>simp [okD] at h
theorem z35{k:Nat}{d:D}(h:okD k d=true)(hk:k<=10):zco d=true:=by
 have q:=zaC k d h;simp only [zco,SeqAt.shaped,q.1];simp;omega
theorem eq_self{k:Nat}{d:D}(h:okD k d=true)(hk:k<=10)(s:Sto):dEq d d s=.ok (.bl true) s:=by
 have q:=zaC k d h;have o:=z35 h hk;rw [dEq,_d ⟨o,o⟩];simp only [eqD,q.2.2]
theorem ne_self{k:Nat}{d:D}(h:okD k d=true)(hk:k<=10)(s:Sto):dNe d d s=.ok (.bl false) s:=by
 have q:=zaC k d h;have o:=z35 h hk;rw [dNe,_d ⟨o,o⟩];simp only [eqD,q.2.2];rfl
theorem z0c(k:Nat)(ns:List Int):(iL ns).all (okD k)=true:=by
 rw [_L];intro x hx;obtain ⟨n,_,rfl⟩:=_ap.mp hx;cases k<;>rfl
theorem zgV(k:Nat)(ns:List Int):okD (k+1) (rD ns)=true:=z0c k ns
end Pg
namespace Pn
open L2 Dd Pm Pg
def isI:D->Bool
 | .int _=>true | _=>false
def okI:D->Bool
 | .int i=>decide (0<=i) | _=>false
theorem z7h{d:D}(h:(tyD d).isSome=true)(s:Sto):wk [d] s=.ok (.bl (isI d)) s:=by cases d<;>simp [tyD] at h<;>simp [wk,Mof,ki,zq,gIs,tyD,isT,isI]
theorem z0E{d:D}(h:(tyD d).isSome=true)(s:Sto):yK [d] s=.ok (.bl (isI d)) s:=by cases d<;>simp [tyD] at h<;>simp [yK,Mof,kQ,zq,gIs,tyD,isT,isI]
def Kd:D->Prop
 | .tup xs=>∀ x∈xs,(tyD x).isSome=true | .scr _=>False | d=>(tyD d).isSome=true
theorem Kd.ty{d:D}(h:Kd d):(tyD d).isSome=true:=by cases d<;>first | rfl | exact h | exact (show False from h).elim
theorem all_ints:∀ {xs:List D},xs.all isI=true->∃ v:List Int,xs=iL v
 | [],_=>⟨[],rfl⟩ | x::xs,h=>by
  rw [_bR,_D] at h;obtain ⟨v,rfl⟩:=all_ints h.2;cases x with
  | int i=>exact ⟨i::v,rfl⟩ | _=>simp [isI] at h
theorem zd0:∀ {v w:List Int},iL v=iL w->v=w
 | [],[],_=>rfl | [],_::_,h=>by simp at h | _::_,[],h=>by simp at h | a::v,b::w,h=>by
  simp only [iL,_w,_b0,D.int.injEq] at h;rw [h.1,zd0 (v:=v) (w:=w) h.2]
theorem zbc(v:List Int):(iL v).all okI=v.all fun x=>decide (0<=x):=by
 simp only [iL,List.all_map];rfl
theorem z7G{α:Type}(l:List α)(p:α->Bool)(s:Sto):zbZ [.lst (l.map fun x=>D.bl (p x))] s=.ok (.bl (l.all p)) s:=by
 have b:bools (l.map fun x=>D.bl (p x))=some (l.map p):=by
  rw [show (l.map fun x=>D.bl (p x))=(l.map p).map D.bl by rw [_bg];rfl];exact z5a _
 simp [zbZ,zO,b]
theorem z4d {xs:List D} (hk:∀ x∈xs,(tyD x).isSome=true) (s:Sto) (h:xs.length<=1000):yo [.tup xs,.int xs.length] s=.ok (.bl (xs.all isI)) s:=by
 have st:zq ["thing","many"] [.tup xs,.int xs.length]=[some (.tup xs),some (.int xs.length)]:=rfl;simp only [yo,Mof,uZ,st,_i,_l,_A];rw [zi (Z':=[some (.tup xs),some (.int xs.length)]) (s':=s) (by simp [gIs,tyD,isT,xi,zO])];have c:=comp_map (fi:=wU (zc 0)) (mp:=[none]) (fg:=vw 0) (fe:=ze wk (za (zc 0) zh)) (Z:=[some (.tup xs),some (.int xs.length)]) (s:=s) (fun x=>x) (fun x=>D.bl (isI x)) (fun x=>[some x]) xs (by simp) (fun a _=>by simp) (fun a ha=>by simp [z7h (hk a ha)]) (by simp [cap];omega);simp only [jX,yI,yf,zo,zG,c,Rb,z7G]
theorem z0x{t:Option D}(s:Sto):∀ (xs all:List D)(z:Option D),(∀ x∈xs,(tyD x).isSome=true)-> if xs.all okI=true then ∃ z',xG [] all (fun d Z s=>(vw 1 d Z s).bind fun Z' s'=>xA Z' s') xs [t,z] s=.ok (.nx [t,z']) s else xG [] all (fun d Z s=>(vw 1 d Z s).bind fun Z' s'=>xA Z' s') xs [t,z] s=.ok (.rt (.bl false)) s
 | [],all,z,_=>by simp [xG,okG] | x::xs,all,z,hk=>by
  have hx:=hk x (by simp);have ih:=z0x (t:=t) s xs all (some x) fun y hy=>hk y (by simp [hy]);have og:okG [] all s:=by intro p hp;simp at hp
  have step:xA [t,some x] s=if okI x=true then .ok (.nx [t,some x]) s else .ok (.rt (.bl false)) s:=by
   have w:=z0E hx s;cases x with
   | int i=>
    by_cases h0:0<=i
    ·have:¬ i<0:=by omega
     simp [w,isI,okI,h0,this]
    ·have:i<0:=by omega
     simp [w,isI,okI,h0,this] | _=>simp [w,isI,okI]
  simp only [xG,_d og,z3w,Rb,_ac,_ab,step];cases h:okI x with
  | true=>
   simp only [_A,Rb,_bR,h,Bool.true_and];exact ih | false=>simp [h]
theorem zer{xs:List D}(h:xs.all okI=true):xs.all isI=true:=by
 rw [_L] at h ⊢;intro x hx;have:=h x hx;cases x<;>simp_all [okI,isI]
theorem zbM{d:D}(hd:Kd d)(s:Sto):(∃ n v,d=rD v/\Lot n v/\zS [d] s=.ok (.bl true) s/\zZ [d] s=.ok (.bl true) s)\/(zS [d] s=.ok (.bl false) s/\zZ [d] s=.ok (.bl false) s):=by cases d with
  | tup xs=>
    have hk:∀ x∈xs,(tyD x).isSome=true:=hd;by_cases hs:2<=xs.length/\xs.length<=4
    · have h1:=z3r xs s hs;have h2:=z4d hk s (by omega);have gl:xi [.tup xs] s=.ok (.int xs.length) s:=by simp [xi,zO]
      have lf:jj [some (.tup xs),none] s=.ok (.nx [some (.tup xs),none]) s:=by
        have:z7o true (.int (xs.length:Int)) (.tup [.int 2,.int 3,.int 4]) s=.ok (.bl false) s:=by
          have hc:xs.length=2\/xs.length=3\/xs.length=4:=by omega
          rcases hc with hc | hc | hc<;>rw [hc]<;>rfl
        simp [gIs,tyD,isT,gl,this,cap]
      have lp:=z0x (t:=some (.tup xs)) s xs xs none hk;have st:zq ["_law_thing","_law_number"] [.tup xs]=[some (.tup xs),none]:=rfl;have lw:zZ [.tup xs] s=(match zy xt wy [some (.tup xs),none] s with | .ok (.rt d) s'=>.ok d s' | .ok (.nx _) s'=>.ok .non s' | _=>.no):=by
        simp only [zZ,Mof,wL,st,_i,_l,_A];rw [zi lf]<;>(generalize zy xt wy [some (.tup xs),none] s=r;cases r with
          | ok fl _=>cases fl<;>rfl | _=>rfl)
      have q3:xt [some (.tup xs),none] s=xG [] xs (fun d Z s=>(vw 1 d Z s).bind fun Z' s'=>xA Z' s') xs [some (.tup xs),none] s:=by
        rw [xt,z11];simp only [z9R,yg,_e,Rb]
      have pg:∀ b,(∀ v:List Int,xs=iL v->(decide (0<=minL v)&&decide (0<maxL v))=b)->(xs.all isI=false->b=false)->zS [.tup xs] s=.ok (.bl b) s:=fun b hb hb2=>by cases hi:xs.all isI with
        | false=>
          rw [hi] at h2;rw [hb2 hi];have key:∀ d:D,yr [d] s=.ok (.bl true) s->xi [d] s=.ok (.int xs.length) s->yo [d,.int xs.length] s=.ok (.bl false) s->zS [d] s=.ok (.bl false) s:=fun d a1 a2 a3=>by simp [zS,Mof,vG,zq,a1,a2,a3]
          exact key _ h1 gl h2 | true=>
          rw [hi] at h2;obtain ⟨v,rfl⟩:=all_ints hi;have ne:v≠[]:=by rintro rfl;simp at hs
          have g1:=z3m s ne;have g2:=zdf s ne;have hb:=hb v rfl;have key:∀ d:D,yr [d] s=.ok (.bl true) s->xi [d] s=.ok (.int (iL v).length) s->yo [d,.int (iL v).length] s=.ok (.bl true) s->wR [d] s=.ok (.int (maxL v)) s->z2J [d] s=.ok (.int (minL v)) s->zS [d] s=.ok (.bl b) s:=fun d a1 a2 a3 a4 a5=>by
            rw [<- hb];by_cases z:0<=minL v;· simp [zS,Mof,vG,zq,a1,a2,a3,a4,a5,z,-List.length_map]
            · simp [zS,Mof,vG,zq,a1,a2,a3,a4,a5,z,-List.length_map]
          exact key _ h1 gl h2 g1 g2
      cases ho:xs.all okI with
      | false=>
        right;rw [ho,_o (by decide)] at lp;refine ⟨pg false (fun v hv=>?_) (fun _=>rfl),?_⟩
        · subst hv;rw [zbc] at ho;rw [Bool.and_eq_false_iff];left;rw [decide_eq_false_iff_not];intro z;have ne:v≠[]:=by rintro rfl;simp at hs
          have:v.all (fun x=>decide (0<=x))=true:=by
            rw [_L];intro x hx;have:=minL_le (xs:=v) x hx;exact _bF (by omega)
          rw [this] at ho;cases ho
        · rw [lw,zaK (by rw [q3];exact lp)] | true=>
        rw [ho,_d rfl] at lp;obtain ⟨z',lp⟩:=lp;obtain ⟨v,rfl⟩:=all_ints (zer ho);have ne:v≠[]:=by rintro rfl;simp at hs
        rw [zbc,_L] at ho;have nn:∀ x∈v,0<=x:=fun x hx=>of_decide_eq_true (ho x hx);have mn:0<=minL v:=nn _ (minL_mem ne);have g1:=z3m s ne;have lw2:zZ [.tup (iL v)] s=.ok (.bl (decide (0<maxL v))) s:=by
          rw [lw,zi (by rw [q3];exact lp)];have key:∀ d:D,wR [d] s=.ok (.int (maxL v)) s->wy [some d,z'] s=.ok (.rt (.bl (decide (0<maxL v)))) s:=fun d a=>by simp [a]
          rw [key _ g1]
        by_cases mx:0<maxL v
        · left;have hv:Lot v.length v:=by refine ⟨?_,?_,nn,⟨maxL v,maxL_mem ne,mx⟩⟩<;>first | rfl | (simp at hs;omega) | skip
          refine ⟨v.length,v,rfl,hv,z7T hv s,?_⟩;rw [lw2,_bF mx]
        · right;refine ⟨pg false (fun w hw=>?_) (fun _=>rfl),?_⟩
          · have:v=w:=zd0 hw;subst this;rw [_ae mx,Bool.and_false]
          · rw [lw2,_ae mx]
    · right;have e:(decide ((2:Int)<=xs.length)&&decide ((xs.length:Int)<=4))=false:=by
        by_cases a:(2:Int)<=xs.length
        · have:¬ (xs.length:Int)<=4:=by omega
          simp [a,this]
        · simp [a]
      constructor
      · have h1:yr [.tup xs] s=.ok (.bl false) s:=by
          by_cases a:(2:Int)<=xs.length
          · have:¬ (xs.length:Int)<=4:=by omega
            simp [yr,Mof,vK,zq,gIs,tyD,isT,xi,zO,a,this]
          · simp [yr,Mof,vK,zq,gIs,tyD,isT,xi,zO,a]
        have key:∀ d:D,yr [d] s=.ok (.bl false) s->zS [d] s=.ok (.bl false) s:=fun d a1=>by simp [zS,Mof,vG,zq,a1]
        exact key _ h1
      · have gl:xi [.tup xs] s=.ok (.int xs.length) s:=by simp [xi,zO]
        have q:z7o true (.int (xs.length:Int)) (.tup [.int 2,.int 3,.int 4]) s=.ok (.bl true) s:=by
          have h2:xs.length≠2:=by omega
          have h3:xs.length≠3:=by omega
          have h4:xs.length≠4:=by omega
          generalize xs.length=m at h2 h3 h4;have g2:¬ (2:Int)=m:=by omega
          have g3:¬ (3:Int)=m:=by omega
          have g4:¬ (4:Int)=m:=by omega
          have e:inV (.int (m:Int)) [.int 2,.int 3,.int 4]=false:=by simp [inV,eqV,g2,g3,g4]
          simp [z7o,z1O,zO,je,e]
        simp [zZ,Mof,wL,zq,gIs,tyD,isT,gl,q,cap] | scr _=>exact hd.elim | _=>
    right;have hd:=hd.ty;first
    | (exfalso;simp [tyD] at hd;done)
    | (constructor;· simp [zS,Mof,vG,yr,vK,zq,gIs,tyD,isT]
       · simp [zZ,Mof,wL,zq,gIs,tyD,isT])
theorem z6V:LeM yC vx:=LeM.mof (LeS.if_ LeS.fNo LeS.rfl)
theorem z4x{d:D}{s:Sto}(h:zS [d] s=.ok (.bl false) s):vx [d] s=.ex "NoLot" s:=by
 have st:zq ["thing"] [d]=[some d]:=rfl;simp [vx,z1h,z0y,st,h]
theorem z3n{f g:FS}{Z:Ev}{s s':Sto}{c:Str}(h:f Z s=.ex c s'):zy f g Z s=.ex c s':=by rw [z4Y,h,R.bind_ex]
theorem z21{f:FE}{Z:Ev}{s s':Sto}{c:Str}(h:f Z s=.ex c s'):vm f Z s=.ex c s':=by rw [wI,h,R.bind_ex]
theorem same_int(k:Nat)(i:Int)(s:Sto):zJ (k+1) [.int i,.int i] s=.ok (.bl true) s:=by
 have d1:dIs (.int i) .non s=.ok (.bl false) s:=rfl;have w:=z0E (d:=.int i) rfl s;simp [zJ,Mof,ug,zq,zfB,zfA,gIs,tyD,isT,d1,w,isI]
theorem same_str (k:Nat) {x:Str} (hx:PyData.strOk x=true) (s:Sto):zJ (k+1) [.str x,.str x] s=.ok (.bl true) s:=by
 have d1:dIs (.str x) .non s=.ok (.bl false) s:=rfl;have e:=eq_self (k:=0) (d:=.str x) hx (by decide) s;have e2:dEq (.bl false) (.bl false) s=.ok (.bl true) s:=by rw [zio];rfl
 simp [zJ,Mof,ug,zq,zfB,zfA,gIs,tyD,isT,d1,e]
structure Bn(m:Nat)(d:D):Prop where
 kd:Kd d
 bd:∀ xs i,d=.tup xs->D.int i∈xs->i.natAbs<2 ^ m
theorem Bn.tup{m:Nat}{xs:List D}(h:∀ x∈xs,(tyD x).isSome=true/\∀ i,x=.int i->i.natAbs<2 ^ m):Bn m (.tup xs):= ⟨fun x hx=>(h x hx).1,fun ys i e hi=>by cases e;exact (h _ hi).2 i rfl⟩
theorem Bn.other{m:Nat}{d:D}(h:Kd d)(hn:∀ xs,d≠.tup xs):Bn m d:=⟨h,fun xs i e _=>absurd e (hn xs)⟩
def zbj:List D:=[.non,.bl true,.bl false,.int (-1),.int 0,.int 7,.int 1000000000000000000000000000000,.str "",.str "1:0",.tup [],.tup [.int 0,.int 0],.tup [.int 1],.lst [.int 1,.int 0],.dct,.tup [.tup [.int 1,.int 0],.tup [.int 0,.int 1]],.tup [.bl true,.int 2]]
theorem ziW {s:Sto} {l:Nat} (h:Pot s l):∃ d s',uz [.loc l] s=.ok d s'/\d∈zbj/\vS s s' l:=by
 have st:zq ["_law_pot_here","_law_some"] [.loc l]=[some (.loc l),none]:=rfl;have q1:z0G [some (.loc l),none] s=.ok (.nx [some (.loc l),some (.lst [.non,.bl true,.bl false,.int (-1),.int 0,.int 7,.int 1000000000000000000000000000000,.str "",.str "1:0",.tup [],.tup [.int 0,.int 0],.tup [.int 1],.lst [.int 1,.int 0],.dct])]) s:=by simp [zdT,cap]
 obtain ⟨r,s',e,a,b,dr⟩:=wP (f:=zc 0) (g:=eC (.int 16)) (far:=16) (Z:=[some (.loc l),some (.lst [.non,.bl true,.bl false,.int (-1),.int 0,.int 7,.int 1000000000000000000000000000000,.str "",.str "1:0",.tup [],.tup [.int 0,.int 0],.tup [.int 1],.lst [.int 1,.int 0],.dct])]) h (by decide) (jh (by decide)) (by simp) (by simp);have hr:r.toNat<zbj.length:=by simp [zbj];omega
 have ix:=va (xs:=zbj) (d:=zbj[r.toNat]) (s:=s') a (by simp [hr]);refine ⟨zbj[r.toNat],s',?_,_V hr,dr⟩;simp only [uz,Mof,z2q,st,_i,_l,_A];rw [zi q1,z0t,yI,yk];have c:eOp vM (zc 1) (jO (za (wT (za (wT (za (eC (.int 1)) (za (eC (.int 0)) zh))) (za (wT (za (eC (.int 0)) (za (eC (.int 1)) zh))) zh))) (za (wT (za (eC (.bl true)) (za (eC (.int 2)) zh))) zh))) [some (.loc l),some (.lst [.non,.bl true,.bl false,.int (-1),.int 0,.int 7,.int 1000000000000000000000000000000,.str "",.str "1:0",.tup [],.tup [.int 0,.int 0],.tup [.int 1],.lst [.int 1,.int 0],.dct])] s=.ok (.lst zbj) s:=by simp [cap,zbj]
 rw [c,Rb,e,Rb,ix,Rb]
theorem zhv{m:Nat}{d:D}(h:d∈zbj)(hm:2<=m):Bn m d:=by
 have h2:2 ^ 2<=2 ^ m:=_ad (by decide) hm;simp only [zbj,_r,_ax,_cm] at h;rcases h with rfl | rfl | rfl | rfl | rfl | rfl | rfl | rfl | rfl | rfl | rfl | rfl | rfl | rfl | rfl | rfl;case inr.inr.inr.inr.inr.inr.inr.inr.inr.inl=>exact Bn.tup (by simp)
 case inr.inr.inr.inr.inr.inr.inr.inr.inr.inr.inl=>exact Bn.tup (by simp [tyD];omega)
 case inr.inr.inr.inr.inr.inr.inr.inr.inr.inr.inr.inl=>exact Bn.tup (by simp [tyD];omega)
 case inr.inr.inr.inr.inr.inr.inr.inr.inr.inr.inr.inr.inr.inr.inl=>exact Bn.tup (by simp [tyD])
 case inr.inr.inr.inr.inr.inr.inr.inr.inr.inr.inr.inr.inr.inr.inr=>exact Bn.tup (by simp [tyD];omega)
 all_goals exact Bn.other rfl (by intro xs e;cases e)
theorem zfd {v:List Int} {k:Nat} (hk:k<v.length) (s:Sto):∃ y∈v,dIx (rD v) (.int ((k:Int)-1)) s=.ok (.int y) s:=by cases k with
 | zero=>
  have hl:v.length-1<v.length:=by omega
  refine ⟨v[v.length-1],_V hl,?_⟩;have e:ixN (iL v).length (((0:Nat):Int)-1)=some (v.length-1):=by
   unfold ixN;rw [_o (by omega),_d (by simp;omega)];congr 1;simp;omega
  simp only [dIx,zO,atI,e,_G];simp [hl] | succ k=>
  have hl:k<v.length:=by omega
  refine ⟨v[k],_V hl,?_⟩;have:=zaa (xs:=iL v) (j:=k) (d:=.int v[k]) s (by simp [hl]);rw [show (((k+1:Nat):Int)-1)=(k:Int) by omega];exact this
theorem zhw {s:Sto} {l m:Nat} {v:List Int} (h:Pot s l) (hv:∀ x∈v,x.natAbs<2 ^ m) (hm:104<=m) (h1:1<=v.length) (h4:v.length<=4):∃ d s',vE [.loc l,rD v] s=.ok d s'/\Bn (m+1) d/\vS s s' l:=by
 have st:zq ["_law_pot_here","_law_row","_law_at","_law_odd_here","_law_some"] [.loc l,rD v]=[some (.loc l),some (rD v),none,none,none]:=rfl;have gl:∀ s,xi [rD v] s=.ok (.int v.length) s:=fun s=>by simp [xi,zO]
 obtain ⟨r1,s1,e1,a1,b1,d1⟩:=wP (f:=zc 0) (g:=ze xi (za (zc 1) zh)) (far:=v.length) (Z:=[some (.loc l),some (rD v),none,none,none]) h (by omega) (jh (by omega)) (by simp) (by simp only [yf,zo,zG,yg,_h,_e,Rb,gl]);obtain ⟨k,rfl⟩:∃ k:Nat,r1=k:=⟨r1.toNat,by omega⟩;have hk:k<v.length:=by omega
 have q1:qq [some (.loc l),some (rD v),none,none,none] s=.ok (.nx [some (.loc l),some (rD v),some (.int k),none,none]) s1:=by rw [qq,zW,e1];rfl
 have ixk:∀ s,dIx (rD v) (.int k) s=.ok (.int v[k]) s:=fun s=>zaa (xs:=iL v) (j:=k) (d:=.int v[k]) s (by simp [hk]);obtain ⟨y,hy,ixp⟩:=zfd hk s1;have bp:∀ {i:Int},i.natAbs<2 ^ m->i.natAbs+1<2 ^ (m+1):=fun {i} hi=>by
  have:2 ^ (m+1)=2 ^ m*2:=Nat.pow_succ ..;have:0<2 ^ m:=Nat.pow_pos (by decide);omega
 have hx:=bp (hv _ (_V hk));let L10:List D:=[.int (v[k]+1),.int (v[k]-1),.int (0-v[k]),.int 0,.bl true,.non,.str "1",.tup [.int 1],.int 1000000000000000000000000000000,.int y];have hL:∀ e∈L10,(tyD e).isSome=true/\∀ i,e=.int i->i.natAbs<2 ^ (m+1):=by
  have p30:(1000000000000000000000000000000:Int).natAbs<2 ^ (m+1):=_q (by decide:(1000000000000000000000000000000:Int).natAbs<2 ^ 105) (_ad (by decide) (by omega));have hy2:=bp (hv _ hy);intro e he;simp only [L10,_r,_ax,_cm] at he;rcases he with rfl | rfl | rfl | rfl | rfl | rfl | rfl | rfl | rfl | rfl;all_goals refine ⟨rfl,fun i hi=>?_⟩
  all_goals first | cases hi | skip
  all_goals first | exact p30 | omega
 have q2:qD [some (.loc l),some (rD v),some (.int k),none,none] s1=.ok (.nx [some (.loc l),some (rD v),some (.int k),some (.lst L10),none]) s1:=by
  have key:∀ d:D,dIx d (.int k) s1=.ok (.int v[k]) s1->dIx d (.int ((k:Int)-1)) s1=.ok (.int y) s1->qD [some (.loc l),some d,some (.int k),none,none] s1=.ok (.nx [some (.loc l),some d,some (.int k),some (.lst L10),none]) s1:=fun d c1 c2=>by simp [c1,c2,zdT,cap,L10]
  exact key _ (ixk s1) ixp
 obtain ⟨r2,s2,e2,a2,b2,d2⟩:=wP (f:=zc 0) (g:=eC (.int 10)) (far:=10) (Z:=[some (.loc l),some (rD v),some (.int k),some (.lst L10),none]) d1.pot (by decide) (jh (by decide)) (by simp) (by simp);have hr2:r2.toNat<L10.length:=by simp [L10];omega
 have ix2:=va (xs:=L10) (d:=L10[r2.toNat]) (s:=s2) a2 (by simp [hr2]);have he:=hL _ (_V hr2);generalize L10[r2.toNat]=e at ix2 he;have q3:uX [some (.loc l),some (rD v),some (.int k),some (.lst L10),none] s1=.ok (.nx [some (.loc l),some (rD v),some (.int k),some e,none]) s2:=by
  rw [uX,zW,yk];simp only [yg,_h,_e,Rb];rw [e2,Rb,ix2];rfl
 have sk:∀ s,dSl (rD v) none (some (k:Int)) s=.ok (.tup ((iL v).take k)) s:=fun s=>z3Y _ _ _;have sd:∀ s,dSl (rD v) (some (k:Int)) none s=.ok (.tup ((iL v).drop k)) s:=fun s=>z2n _ _ _;have sd1:∀ s,dSl (rD v) (some ((k:Int)+1)) none s=.ok (.tup ((iL v).drop (k+1))) s:=fun s=>z2n (iL v) (k+1) s;have lv:(iL v).length=v.length:=by simp
 generalize hT:(iL v).take k=T at sk;generalize hU:(iL v).drop k=U at sd;generalize hW:(iL v).drop (k+1)=W at sd1;have lT:T.length<=4:=by rw [<- hT,_bM];omega
 have lU:U.length<=4:=by rw [<- hU,_bN];omega
 have lW:W.length<=4:=by rw [<- hW,_bN];omega
 have hrow:∀ x∈iL v,(tyD x).isSome=true/\∀ i,x=.int i->i.natAbs<2 ^ (m+1):=fun x hx=>by
  obtain ⟨z,hz,rfl⟩:=_ap.mp hx;refine ⟨rfl,fun i q=>?_⟩;cases q;have:=bp (hv _ hz);omega
 have iT:∀ x∈T,x∈iL v:=fun x hx=>_aS (hT ▸ hx);have iU:∀ x∈U,x∈iL v:=fun x hx=>List.mem_of_mem_drop (hU ▸ hx);have iW:∀ x∈W,x∈iL v:=fun x hx=>List.mem_of_mem_drop (hW ▸ hx);have q4:uV [some (.loc l),some (rD v),some (.int k),some e,none] s2=.ok (.nx [some (.loc l),some (rD v),some (.int k),some e,some (.lst [.tup (T++[e]++W),.tup (T++[e]++W),.tup (T++W),.lst (iL v)])]) s2:=by
  have g:z98 [rD v] s2=.ok (.lst (iL v)) s2:=by simp [z98,zO]
  have c1:T.length+1<=cap:=by simp [cap];omega
  have c2:T.length+1+W.length<=cap:=by simp [cap];omega
  have c3:T.length+W.length<=cap:=by simp [cap];omega
  have c4:(1:Nat)<=cap:=by decide
  have c5:(4:Nat)<=cap:=by decide
  have key:∀ (d g:D),dSl d none (some (k:Int)) s2=.ok (.tup T) s2->dSl d (some ((k:Int)+1)) none s2=.ok (.tup W) s2->z98 [d] s2=.ok g s2->uV [some (.loc l),some d,some (.int k),some e,none] s2=.ok (.nx [some (.loc l),some d,some (.int k),some e,some (.lst [.tup (T++[e]++W),.tup (T++[e]++W),.tup (T++W),g])]) s2:=fun d g x1 x2 x3=>by simp [x1,x2,x3,c1,c2,c3,c4,c5]
  exact key _ _ (sk s2) (sd1 s2) g
 obtain ⟨o,s3,e3,ho,d3⟩:=ziW (l:=l) (d1.trans d2).pot;let M10:List D:=[.tup (T++[e]++W),.tup (T++[e]++W),.tup (T++W),.lst (iL v),.tup (T++[.int 0]++U),.tup (iL v).reverse,.tup (iL v++iL v),.tup (List.replicate v.length (.int 0)),o,.tup [rD v]];have q5:vo [some (.loc l),some (rD v),some (.int k),some e,some (.lst [.tup (T++[e]++W),.tup (T++[e]++W),.tup (T++W),.lst (iL v)])] s2=.ok (.nx [some (.loc l),some (rD v),some (.int k),some e,some (.lst M10)]) s3:=by
  have c1:T.length+1<=cap:=by simp [cap];omega
  have c2:T.length+1+U.length<=cap:=by simp [cap];omega
  have c4:(1:Nat)<=cap:=by decide
  have c5:(6:Nat)<=cap:=by decide
  have c6:(10:Nat)<=cap:=by decide
  have rp:z8x (.tup [.int 0]) (.int v.length) s2=.ok (.tup (List.replicate v.length (.int 0))) s2:=by
   rw [ze3,_d ⟨by omega,by simp,by simp [cap];omega⟩];congr 2;rw [_aR];generalize v.length=n;induction n with
   | zero=>rfl | succ n ih=>rw [_Y,_aB,ih];rfl
  have ad:vM (rD v) (rD v) s2=.ok (.tup (iL v++iL v)) s2:=by rw [z5m,_d (by simp [cap];omega)]
  have rv:zfC (zc 1) [some (.loc l),some (rD v),some (.int k),some e,some (.lst [.tup (T++[e]++W),.tup (T++[e]++W),.tup (T++W),.lst (iL v)])] s2=.ok (.tup (iL v).reverse) s2:=by simp
  have key:∀ (d g rv aa rr x4:D) (z:List D),z.length=4->x4=.lst z->dSl d none (some (k:Int)) s2=.ok (.tup T) s2->dSl d (some (k:Int)) none s2=.ok (.tup U) s2->xi [d] s2=.ok (.int v.length) s2->vM d d s2=.ok aa s2->z8x (.tup [.int 0]) (.int v.length) s2=.ok rr s2-> zfC (zc 1) [some (.loc l),some d,some (.int k),some e,some x4] s2=.ok rv s2->vo [some (.loc l),some d,some (.int k),some e,some x4] s2=.ok (.nx [some (.loc l),some d,some (.int k),some e,some (.lst (z++[.tup (T++[.int 0]++U),rv,aa,rr,o,.tup [d]]))]) s3:=fun d g rv aa rr x4 z hz hx4 x1 x2 x3 x5 x6 x7=>by
   subst hx4;rw [vo,zW,yk];simp only [z0O,zo,zG,x7,yk,zb0,jb,z22,yg,uC,kz,yf,_h,_e,Rb,x1,x2,x3,x5,x6,e3,z5m,_aK,_i,_l,_ay,_d c1,_d c2,_d c4,_d c5,zdi,hz,Nat.reduceAdd,_d c6,_ac,_ab]
  exact key _ (.lst []) _ _ _ _ _ rfl rfl (sk s2) (sd s2) (gl s2) ad rp rv
 obtain ⟨r4,s4,e4,a4,b4,d4⟩:=wP (f:=zc 0) (g:=eC (.int 10)) (far:=10) (Z:=[some (.loc l),some (rD v),some (.int k),some e,some (.lst M10)]) d3.pot (by decide) (jh (by decide)) (by simp) (by simp);have hr4:r4.toNat<M10.length:=by simp [M10];omega
 have ix4:=va (xs:=M10) (d:=M10[r4.toNat]) (s:=s4) a4 (by simp [hr4]);have hM:∀ d∈M10,Bn (m+1) d:=by
  have bent:Bn (m+1) (.tup (T++[e]++W)):=Bn.tup fun x hx=>by
   simp only [_ag,_r,_ax,_cm] at hx;rcases hx with (hx | rfl) | hx;·exact hrow x (iT x hx)
   ·exact he
   ·exact hrow x (iW x hx)
  intro d hd;simp only [M10,_r,_ax,_cm] at hd;rcases hd with rfl | rfl | rfl | rfl | rfl | rfl | rfl | rfl | rfl | rfl;·exact bent
  ·exact bent
  ·refine Bn.tup fun x hx=>?_;rcases _ag.mp hx with hx | hx;·exact hrow x (iT x hx)
   ·exact hrow x (iW x hx)
  ·exact Bn.other rfl (by intro xs q;cases q)
  ·refine Bn.tup fun x hx=>?_;simp only [_ag,_r,_ax,_cm] at hx;rcases hx with (hx | rfl) | hx;·exact hrow x (iT x hx)
   ·exact ⟨rfl,fun i q=>by cases q;exact Nat.pow_pos (by decide)⟩
   ·exact hrow x (iU x hx)
  ·exact Bn.tup fun x hx=>hrow x (_bh.mp hx)
  ·exact Bn.tup fun x hx=>(_ag.mp hx).elim (hrow x) (hrow x)
  ·refine Bn.tup fun x hx=>?_;rw [(List.mem_replicate.mp hx).2];exact ⟨rfl,fun i q=>by cases q;exact Nat.pow_pos (by decide)⟩
  ·exact zhv ho (by omega)
  ·refine Bn.tup fun x hx=>?_;simp only [_r,_ax,_cm] at hx;subst hx;exact ⟨rfl,fun i q=>by cases q⟩
 refine ⟨M10[r4.toNat],s4,?_,hM _ (_V hr4),((d1.trans d2).trans d3).trans d4⟩;simp only [vE,Mof,z0M,st,_i,_l,_A];rw [zi q1,zi q2,zi q3,zi q4,zi q5,kJ,yI,yk];simp only [yg,_h,_e,Rb];rw [e4,Rb,ix4,Rb]
end Pn
namespace Pm
end Pm
namespace Pg
open L2 Dd Pm
theorem vr{i:Nat}{Z:Ev}{s:Sto}{d:D}(h:Z[i]? = some (some d)):zc i Z s=.ok d s:=by rw [yg,h]
theorem zbi{f g:FS}{t:FT}{Z:Ev}{s:Sto}(h:t Z s=.ok false s):fIf t f g Z s=g Z s:=by rw [z1a,h,Rb,_o (by decide)]
theorem z4g{f:FE}{Z:Ev}{s:Sto}{b:Bool}(h:f Z s=.ok (.bl b) s):tOf f Z s=.ok b s:=by rw [vq,h];rfl
theorem not_t{t:FT}{Z:Ev}{s:Sto}(h:t Z s=.ok true s):z2c t Z s=.ok false s:=by rw [z12,h];rfl
end Pg
namespace Pm
end Pm
namespace Pg
open L2 Dd Pm
variable (Mr:Mir)
end Pg
namespace Pm
end Pm
namespace Pg
open L2 Dd Pm
theorem jY{ar:FA}{Z:Ev}{s s1:Sto}{n:Nat}(hn:n<=1000)(h:ar Z s=.ok [.int n] s1):z2K ar Z s=.ok ((List.range n).map fun k:Nat=>D.int ((k:Nat):Int),[]) s1:=by
 rw [zdr,h,Dd.R.bind_ok];simp only;rw [_d ⟨by omega,by omega⟩];simp [xO]
end Pg
namespace Pn
open L2 Dd Pm Pg
theorem z5U{α:Type}{n:Nat}{lt lt':Nat->Nat->Bool}(h:∀ i j,i<n->j<n->lt i j=lt' i j):∀ t:W.KasT α,kev n lt t=kev n lt' t
 | .ret a=>rfl | .ask i j k=>by
  unfold kev;split
  ·rename_i hij;rw [h i j hij.1 hij.2];exact z5U h _
  ·rfl
def mt(a b c d e f:Bool):Nat->Nat->Bool
 | 0,1=>a | 0,2=>b | 0,3=>c | 1,2=>d | 1,3=>e | 2,3=>f | 1,0=>!a | 2,0=>!b | 3,0=>!c | 2,1=>!d | 3,1=>!e | 3,2=>!f | _,_=>false
def trn(n:Nat)(lt:Nat->Nat->Bool):Bool:=(List.range n).all fun i=>(List.range n).all fun j=>(List.range n).all fun k=>!(lt i j&&lt j k)||lt i k
def gud(n:Nat)(lt:Nat->Nat->Bool):Bool:=match kev n lt (W.kas_sort n) with
 | none=>false | some p=>decide (p.toList.Perm (List.range n))&&decide (p.toList.Pairwise fun i j=>lt i j=true)
theorem zjP:∀ a b c d e f:Bool,trn 2 (mt a b c d e f)=true->gud 2 (mt a b c d e f)=true:=by decide +kernel
theorem zkl:∀ a b c d e f:Bool,trn 3 (mt a b c d e f)=true->gud 3 (mt a b c d e f)=true:=by decide +kernel
theorem zjK:∀ a b c d e f:Bool,trn 4 (mt a b c d e f)=true->gud 4 (mt a b c d e f)=true:=by decide +kernel
theorem z2v{n:Nat}{lt lt':Nat->Nat->Bool}(h:∀ i j,i<n->j<n->lt i j=lt' i j)(g:gud n lt'=true):∃ p,kev n lt (W.kas_sort n)=some p/\p.toList.Perm (List.range n)/\p.toList.Pairwise fun i j=>lt i j=true:=by
 unfold gud at g;rw [<- z5U h] at g;cases e:kev n lt (W.kas_sort n) with
 | none=>rw [e] at g;cases g | some p=>
  rw [e] at g;simp only [_D,_aU] at g;refine ⟨p,rfl,g.1,?_⟩;refine List.Pairwise.imp_of_mem (fun {i j} hi hj q=>?_) g.2;rw [h i j (_az.mp (g.1.mem_iff.mp hi)) (_az.mp (g.1.mem_iff.mp hj))];exact q
theorem z94{n:Nat}{lt:Nat->Nat->Bool}(h2:2<=n)(h4:n<=4)(irr:∀ i,lt i i=false)(tot:∀ i j,i<n->j<n->i≠j->lt j i=!lt i j)(tr:∀ i j k,lt i j=true->lt j k=true->lt i k=true): ∃ p,kev n lt (W.kas_sort n)=some p/\p.toList.Perm (List.range n)/\p.toList.Pairwise fun i j=>lt i j=true:=by
 have eqm:∀ i j,i<n->j<n->lt i j=mt (lt 0 1) (lt 0 2) (lt 0 3) (lt 1 2) (lt 1 3) (lt 2 3) i j:=fun i j hi hj=>by
  have hi':i=0\/i=1\/i=2\/i=3:=by omega
  have hj':j=0\/j=1\/j=2\/j=3:=by omega
  by_cases e:i=j
  ·subst e;rw [irr];rcases hi' with rfl | rfl | rfl | rfl<;>rfl
  ·have q:=tot j i hj hi (fun z=>e z.symm);rcases hi' with rfl | rfl | rfl | rfl<;>rcases hj' with rfl | rfl | rfl | rfl<;>first | exact absurd rfl e | rfl | exact q
 have tm:trn n (mt (lt 0 1) (lt 0 2) (lt 0 3) (lt 1 2) (lt 1 3) (lt 2 3))=true:=by
  simp only [trn,_L,_az];intro i hi j hj k hk;rw [<- eqm i j hi hj,<- eqm j k hj hk,<- eqm i k hi hk];cases a:lt i j<;>cases b:lt j k<;>simp;exact tr i j k a b
 have hn:n=2\/n=3\/n=4:=by omega
 rcases hn with rfl | rfl | rfl;·exact z2v eqm (zjP _ _ _ _ _ _ tm)
 ·exact z2v eqm (zkl _ _ _ _ _ _ tm)
 ·exact z2v eqm (zjK _ _ _ _ _ _ tm)
theorem z9I(p:Int×Int):lexLt p p=false:=by simp [Dd.lexLt]
theorem zew{p q:Int×Int}(h:p≠q):lexLt q p=!lexLt p q:=by
 obtain ⟨a,b⟩:=p;obtain ⟨c,d⟩:=q;simp only [Dd.lexLt];by_cases e:a=c
 ·subst e;have:b≠d:=fun z=>h (by rw [z]);simp only [_A,this,this.symm,_bq];by_cases l:b<d;·simp [l];omega
  ·simp [l];omega
 ·have e':¬ c=a:=fun z=>e z.symm;simp only [e,e',_bq];by_cases l:a<c;·simp [l];omega
  ·simp [l];omega
theorem z9H{p q:Int×Int}:Dd.lexLt p q=true ↔ p.1<q.1\/(p.1=q.1/\p.2<q.2):=by
 obtain ⟨a,b⟩:=p;obtain ⟨c,d⟩:=q;simp only [Dd.lexLt];by_cases e:a=c
 ·subst e;by_cases e2:b=d
  ·subst e2;simp
  ·simp [e2]
 ·simp [e]
theorem zgN{p q r:Int×Int}(h:Dd.lexLt p q=true)(h':Dd.lexLt q r=true):Dd.lexLt p r=true:=by
 rw [z9H] at *;omega
abbrev pD(p:Int×Int):D:=.tup [.int p.1,.int p.2]
theorem z3d:∀ ps:List (Int×Int),z0H (ps.map pD)=some ps
 | []=>rfl | p::ps=>by simp [z0H,z3d ps]
theorem z5W {ps:List (Int×Int)} (h2:2<=ps.length) (h4:ps.length<=4) (nd:ps.Nodup) (s:Sto): ∃ qs:List (Int×Int),z1I [.lst (ps.map pD)] s=.ok (.lst (qs.map pD)) s/\qs.Perm ps/\qs.Pairwise fun a b=>Dd.lexLt a b=true:=by
 obtain ⟨p,e,pm,pw⟩:=z94 (n:=ps.length) (lt:=fun i j=>Dd.lexLt (ps.getD i (0,0)) (ps.getD j (0,0))) h2 h4 (fun i=>z9I _) (fun i j hi hj hij=>zew fun z=>hij (by
  rw [_s,_s,_f hi,_f hj] at z;exact (_aG nd).mp (by simpa using z))) (fun i j k a b=>zgN a b);have hin:∀ i∈p.toList,i<ps.length:=fun i hi=>_az.mp (pm.mem_iff.mp hi);have hlen:p.toList.length=ps.length:=by rw [pm.length_eq,List.length_range]
 refine ⟨p.toList.map fun i=>ps.getD i (0,0),?_,?_,?_⟩
 ·have em:(p.toList.map fun i=>(ps.map pD).getD i .non)=(p.toList.map fun i=>ps.getD i (0,0)).map pD:=by
   rw [_bg];refine _bm fun i hi=>?_;have:=hin i hi;simp [_s,this]
  have all:p.toList.all (fun i=>decide (i<(ps.map pD).length))=true:=by
   rw [_L];intro i hi;simpa using hin i hi
  simp only [z1I,Dd.listOf,z3d,_J];rw [_d ⟨h2,by omega⟩,e];simp only;rw [_d ⟨by simpa using all,hlen⟩,em]
 ·have:=pm.map fun i=>ps.getD i (0,0);refine this.trans ?_;have:(List.range ps.length).map (fun i=>ps.getD i (0,0))=ps:=by
   apply _aI;·simp
   ·intro i h1 h2;simp [_s,h2]
  rw [this]
 ·rw [List.pairwise_map];exact pw
end Pn
namespace Pm
open L2 (maxL minL maxL_ge maxL_mem minL_le minL_mem)
abbrev enP(v:List Int):List (Int×Nat):=v.zipIdx
def z41(v:List Int):List (Int×Int):=((enP v).filter fun p=>decide (0<p.1)).map fun p=>(p.1,(p.2:Int))
theorem z71{v:List Int}{p:Int×Nat}:p∈enP v ↔ v[p.2]? = some p.1:=by
 obtain ⟨x,i⟩:=p;exact List.mem_zipIdx_iff_getElem?
theorem jw{v:List Int}{a:Int×Int}:a∈z41 v ↔ ∃ i:Nat,a.2=i/\v[i]? = some a.1/\0<a.1:=by
 unfold z41;simp only [_ap,List.mem_filter,_aU];constructor
 ·rintro ⟨p,⟨hp,h0⟩,rfl⟩;exact ⟨p.2,rfl,z71.mp hp,h0⟩
 ·rintro ⟨i,e,g,h0⟩;exact ⟨(a.1,i),⟨z71.mpr g,h0⟩,by rw [<- e]⟩
theorem z9Q{x:Int}:∀ {v:List Int}{i:Nat},v[i]? = some x->v.idxOf x<=i
 | [],i,h=>by simp at h | y::v,0,h=>by
  simp only [_e,_p] at h;subst h;simp | y::v,i+1,h=>by
  simp only [_h] at h;have:=z9Q h;rw [List.idxOf_cons];cases y==x<;>simp<;>omega
theorem getD_get{v:List Int}{i:Nat}(h:i<v.length):v[i]? = some (v.getD i 0):=by simp [_s,h]
theorem z7N{w:List Int}{qs:List (Int×Int)}(hw:∀ x∈w,0<=x)(hn:nz w≠[])(hm:∀ a,a∈qs ↔ a∈z41 w)(pw:qs.Pairwise fun a b=>Dd.lexLt a b=true):∃ uB,qs=(minL (nz w),(lp w:Int))::uB:=by
 obtain ⟨l1,l2,l3⟩:=z6G hn;have mem:=minL_mem hn;have m0:0<minL (nz w):=by
  have:=hw _ (uE.mp mem).1;omega
 have hin:(minL (nz w),(lp w:Int))∈z41 w:=jw.mpr ⟨lp w,rfl,by rw [getD_get l1,l2],m0⟩;cases qs with
 | nil=>exact absurd ((hm _).mpr hin) (by simp) | cons a uB=>
  refine ⟨uB,?_⟩;have ha:a∈z41 w:=(hm a).mp (.head _);obtain ⟨i,e,g,h0⟩:=jw.mp ha;have an:a.1∈nz w:=uE.mpr ⟨_y g,by omega⟩;have le1:=minL_le _ an;rcases _r.mp ((hm _).mpr hin) with z | z;·rw [z]
  ·have lx:=Pn.z9H.mp ((List.pairwise_cons.mp pw).1 _ z);simp only at lx;exfalso;rcases lx with q | ⟨q,q2⟩;·omega
   ·have:w.idxOf a.1<=i:=z9Q g;rw [q] at this;have e2:lp w=w.idxOf (minL (nz w)):=rfl;omega
theorem z2C{n:Nat}{v:List Int}(h:Lot n v)(a:Int×Int):a∈z41 (others v) ↔ a∈z41 v/\a.2≠(gp v:Int):=by
 have ne:=h.ne;rw [jw,jw];constructor
 ·rintro ⟨i,e,g,h0⟩;have hi:i<(others v).length:=by
   have:=(_c.mp g).1;exact this
  have g2:=wK ne i;rw [getD_get hi,_p,g2] at g;split at g;·omega
  ·rename_i q;rw [xF ne] at hi;exact ⟨⟨i,e,by rw [getD_get hi,g],h0⟩,by omega⟩
 ·rintro ⟨⟨i,e,g,h0⟩,hg⟩;have hi:i<v.length:=(_c.mp g).1;rw [getD_get hi,_p] at g;refine ⟨i,e,?_,h0⟩;rw [getD_get (by rw [xF ne];exact hi),wK ne i,_o (by omega),g]
theorem z24{n:Nat}{v:List Int}(h:Lot n v):∀ x∈others v,0<=x:=fun x hx=>by
 rw [others_eq h.ne] at hx;rcases _bj hx with q | q;·exact h.nn x q
 ·omega
theorem zeC{w:List Int}{qs:List (Int×Int)}(hw:∀ x∈w,0<=x)(hn:nz w≠[])(hm:∀ a,a∈qs ↔ a∈z41 w):qs.map Prod.fst≠[]/\maxL (qs.map Prod.fst)=maxL w/\0<maxL w:=by
 have wne:w≠[]:=fun z=>hn (by rw [z];rfl);obtain ⟨y,hy⟩:=List.exists_mem_of_ne_nil _ hn;obtain ⟨y1,y2⟩:=uE.mp hy;have p0:0<maxL w:=by
  have:=hw y y1;have:=maxL_ge (xs:=w) y y1;omega
 have mw:=maxL_mem wne;obtain ⟨i1,i2⟩:=z5w mw;have hin:(maxL w,((w.idxOf (maxL w):Nat):Int))∈qs:=(hm _).mpr (jw.mpr ⟨_,rfl,by rw [getD_get i1,i2],p0⟩);have hin':maxL w∈qs.map Prod.fst:=_ap.mpr ⟨_,hin,rfl⟩;have ne:qs.map Prod.fst≠[]:=List.ne_nil_of_mem hin';refine ⟨ne,?_,p0⟩;have h1:=maxL_ge _ hin';have h2:=maxL_mem ne;obtain ⟨a,ha,e⟩:=_ap.mp h2;obtain ⟨i,_,g,_⟩:=jw.mp ((hm a).mp ha);have h3:=maxL_ge (xs:=w) a.1 (_y g);omega
theorem z86 {w:List Int} {k:Int} (hk:k∈w) (p:Nat->Bool) (hp:∀ i,i<w.length->p i=decide (w.getD i 0=k)):∃ uB,(List.range w.length).filter p=w.idxOf k::uB:=by
 obtain ⟨i1,i2⟩:=z5w hk;have f:(List.range w.length).find? p=some (w.idxOf k):=by
  rw [List.find?_range_eq_some];refine ⟨by rw [hp _ i1,i2];simp,by simpa using i1,fun j hj=>?_⟩;rw [hp j (by omega)];simp only [Bool.not_eq_true',decide_eq_false_iff_not];intro z;have:=z9Q (v:=w) (i:=j) (x:=k) (by rw [getD_get (by omega),z]);omega
 have hd:=List.head?_filter (p:=p) (l:=List.range w.length);rw [f] at hd;cases e:(List.range w.length).filter p with
 | nil=>rw [e] at hd;simp at hd | cons a uB=>
  rw [e] at hd;simp only [List.head?_cons,_p] at hd;exact ⟨uB,by rw [hd]⟩
def z9D(v:List Int)(z:Int)(ps:List Nat)(xs:List Int):List Int:=ps.foldl (fun xs p=>xs.set p (v.getD p 0 / z)) xs
theorem z7W(v:List Int)(z:Int):∀ (ps:List Nat)(xs:List Int),(z9D v z ps xs).length=xs.length
 | [],xs=>rfl | p::ps,xs=>by
  have:=z7W v z ps (xs.set p (v.getD p 0 / z));simpa [z9D] using this
theorem z7U(v:List Int)(z:Int):∀ (ps:List Nat)(xs:List Int)(i:Nat),i<xs.length->(z9D v z ps xs).getD i 0=if i∈ps then v.getD i 0 / z else xs.getD i 0
 | [],xs,i,_=>by simp [z9D] | p::ps,xs,i,hi=>by
  have ih:=z7U v z ps (xs.set p (v.getD p 0 / z)) i (by simpa using hi);have e:z9D v z (p::ps) xs=z9D v z ps (xs.set p (v.getD p 0 / z)):=rfl;rw [e,ih];by_cases q:i∈ps;·simp [q]
  ·by_cases q2:i=p
   ·subst q2;simp [q,hi,_s]
   ·have q3:¬ p=i:=fun z=>q2 z.symm;simp [q,q2,_s,q3]
theorem jE(v:List Int)(b:Nat)(ps:List Nat):z9D v (v.getD b 0) ps (List.replicate v.length 0)=yy v (b,ps):=by
 apply _aI;·rw [z7W,xT];simp
 ·intro i h1 h2;have hi:i<v.length:=by rw [xT] at h2;exact h2
  have:=z7U v (v.getD b 0) ps (List.replicate v.length 0) i (by simpa using hi);rw [_s,_f h1,_aH] at this;rw [this];simp [yy,hi]
theorem z9M(v:List Int)(b:Nat):yy v (b,[])=List.replicate v.length 0:=by
 apply _aI;·rw [xT];simp
 ·intro i h1 h2;simp [yy]
end Pm
namespace Pg
open L2 Dd Pm
end Pg
namespace Po
open L2 Dd Pm Pg Pn
theorem z59:∀ (v:List Int)(k:Nat),z2F k (iL v)=(v.zipIdx k).map fun p=>D.tup [.int ((p.2:Nat):Int),.int p.1]
 | [],k=>rfl | x::v,k=>by simp [z2F,z59 v (k+1)]
theorem z7v{v:List Int}{f:FE}{Z:Ev}{s:Sto}(hf:f Z s=.ok (rD v) s):z8n (za f zh) Z s=.ok ((enP v).map fun p=>D.tup [.int ((p.2:Nat):Int),.int p.1],[]) s:=by simp only [z8n,zo,hf,Rb,zG,z8Q,z59]
theorem zbX{v:List Int}(h:∀ x∈v,0<=x):(z41 v).length=(nz v).length:=by
 have key:∀ (v:List Int)(k:Nat),(∀ x∈v,0<=x)->((v.zipIdx k).filter fun p=>decide (0<p.1)).length=(nz v).length:=by
  intro v;induction v with
  | nil=>intro k _;rfl | cons x v ih=>
   intro k hx;have h0:=hx x (.head _);have ih:=ih (k+1) fun y hy=>hx y (.tail _ hy);rw [_cL];by_cases q:x=0
   ·subst q;simpa [nz,_cT] using ih
   ·have q2:0<x:=by omega
    simp only [nz,_cT,q2,q,_cw,ne_eq,not_false_eq_true,_A,_i];simpa [nz] using ih
 simpa [z41] using key v 0 h
theorem zex(v:List Int):(z41 v).Nodup:=by
 have h0:(enP v).Nodup:=List.Pairwise.of_map (S:=fun a b:Nat=>a≠b) Prod.snd (fun a b h z=>h (by rw [z])) (by rw [List.zipIdx_map_snd];exact List.nodup_range');unfold z41;refine List.Pairwise.map _ (fun a b hab z=>hab ?_) (h0.filter _);simp only [_aW] at z;exact Prod.ext z.1 (by omega)
theorem zcR{n:Nat}{v:List Int}(h:Lot n v)(he:ended v=false):2<=(z41 v).length/\(z41 v).length<=4:=by
 have l4:=h.le4;rw [zbX h.nn];have h1:(nz v).length≠1:=by simpa [ended] using he
 have h2:(nz v).length≠0:=fun z=>h.nzne (_aD.mp z);have h3:(nz v).length<=v.length:=List.length_filter_le _ _;omega
theorem zbG {n:Nat} {v:List Int} (h:Lot n v) (he:ended v=false) (Z:Ev) (s:Sto) (h1:Z[1]? = some (some (rD v))): ∃ qs:List (Int×Int),vh Z s=.ok (.nx (Z.set 3 (some (.lst (qs.map pD))))) s/\(∀ a,a∈qs ↔ a∈z41 v)/\qs.Pairwise fun a b=>Dd.lexLt a b=true:=by
 have l2:=zcR h he;obtain ⟨qs,e,pm,pw⟩:=z5W l2.1 l2.2 (zex v) s;refine ⟨qs,?_,fun a=>pm.mem_iff,pw⟩;have l4:=h.le4;have c:=vk (s:=s) (mp:=[none,none]) (fg:=wz 0 1) (ft:=tOf (eOp dGt (zc 1) (eC (.int 0)))) (fe:=wT (za (zc 1) (za (zc 0) zh))) (fun p:Int×Nat=>D.tup [.int ((p.2:Nat):Int),.int p.1]) (fun p=>pD (p.1,((p.2:Nat):Int))) (fun p=>decide (0<p.1)) (fun p=>[some (.int ((p.2:Nat):Int)),some (.int p.1)]) (enP v) (z7v (vr h1)) (fun p _=>by simp) (fun p _=>by simp) (fun p _ _=>by simp [cap]) (by simp [enP,cap];omega);have em:List.map (fun p:Int×Nat=>pD (p.1,((p.2:Nat):Int))) ((enP v).filter fun p=>decide (0<p.1))=(z41 v).map pD:=by simp [z41,_bc]
 rw [em] at c;rw [vh,zW,xu c,e];rfl
theorem z2j{v:List Int}{k:Nat}{uB:List Nat}{f:FE}{Z:Ev}{s:Sto}(hf:f Z s=.ok (.lst (nL (k::uB))) s):eOp dIx f (eC (.int 0)) Z s=.ok (.int k) s:=by
 rw [yk,hf,Rb,kz,Rb];exact va (_cv _) rfl
abbrev EV(a0 a1 a2 a3 a4 a5 a6 a7 a8 a9 a10 a11 a12:Option D):Ev:=[a0,a1,a2,a3,a4,a5,a6,a7,a8,a9,a10,a11,a12]
structure LD(d:D)(v:List Int):Prop where
 eq:d=rD v
 ix:∀ (s:Sto)(i:Nat),i<v.length->dIx d (.int i) s=.ok (.int (v.getD i 0)) s
 mx:∀ s:Sto,wR [d] s=.ok (.int (maxL v)) s
 len:∀ s:Sto,xi [d] s=.ok (.int v.length) s
theorem LD.of{n:Nat}{v:List Int}(h:Lot n v):LD (rD v) v:=⟨rfl,fun s i hi=>z5k s hi,fun s=>z3m s h.ne,fun s=>by simp [xi,zO]⟩
section
variable {n:Nat}{v:List Int}{d e:D}(h:Lot n v)(D:LD d v)(he:ended v=false){a0 a1 a2 a3 a4 a5 a6 a7 a8 a9 a10 a11 a12:Option Dd.D}(s:Sto)
include h D
theorem zjN:qc (EV a0 (some d) a2 a3 a4 a5 a6 a7 a8 a9 a10 a11 a12) s=.ok (.nx (EV a0 (some d) (some (.int v.length)) a3 a4 a5 a6 a7 a8 a9 a10 a11 a12)) s:=by
 rw [qc,zW,xu (x:=d) (vr rfl),D.len];rfl
theorem zjZ:qe (EV a0 (some d) (some (.int v.length)) a3 a4 a5 a6 a7 a8 a9 a10 a11 a12) s=.ok (.nx (EV a0 (some d) (some (.int v.length)) a3 (some (.int (gp v))) a5 a6 a7 a8 a9 a10 a11 a12)) s:=by
 have l4:=h.le4;obtain ⟨uB,e⟩:=z86 (w:=v) (maxL_mem h.ne) (fun i=>decide (v.getD i 0=maxL v)) (fun i _=>rfl);have c:=vk (s:=s) (mp:=[some 1,none]) (fg:=vw 1) (ft:=tOf (eOp dEq (eOp dIx (zc 0) (zc 1)) (ze wR (za (zc 0) zh)))) (fe:=zc 1) (fun i:Nat=>Dd.D.int ((i:Nat):Int)) (fun i:Nat=>Dd.D.int ((i:Nat):Int)) (fun i=>decide (v.getD i 0=maxL v)) (fun i=>[some d,some (.int ((i:Nat):Int))]) (List.range v.length) (jY (n:=v.length) (Z:=EV a0 (some d) (some (.int v.length)) a3 a4 a5 a6 a7 a8 a9 a10 a11 a12) (ar:=za (zc 2) zh) (by omega) (by simp)) (fun i _=>by simp) (fun i hi=>by
   have hi':i<v.length:=by simpa using hi
   have e1:=D.ix s i hi';have e2:=D.mx s;simp only [vq,yk,yg,yf,zo,zG,_e,_h,Rb,e1,e2,z8I]) (fun i _ _=>by simp) (by simp [cap];omega);rw [e] at c;rw [qe,zW,z2j (v:=v) c];rfl
end
def zcX(v:List Int):Rl->D
 | .al=>.int (lp v) | .tu=>.int 0 | _=>.non
theorem zj6(r:Rl)(s:Sto):dEq (.str (nmR r)) (.str "least") s=.ok (.bl (decide (r=.le))) s:=by
 rw [Pg.eq_str (zaH r) (by decide +kernel)];congr 2;cases r<;>decide +kernel
theorem zhQ(r:Rl)(s:Sto):dEq (.str (nmR r)) (.str "next") s=.ok (.bl (decide (r=.nx))) s:=by
 rw [Pg.eq_str (zaH r) (by decide +kernel)];congr 2;cases r<;>decide +kernel
structure RD(e:D)(r:Rl):Prop where
 eq:e=.str (nmR r)
 le:∀ s:Sto,dEq e (.str "least") s=.ok (.bl (decide (r=.le))) s
 nx:∀ s:Sto,dEq e (.str "next") s=.ok (.bl (decide (r=.nx))) s
 tu:∀ s:Sto,dEq e (.str "turn") s=.ok (.bl (decide (r=.tu))) s
 in_:∀ s:Sto,z7o false e (.tup [.str "next",.str "least"]) s=.ok (.bl (decide (r=.nx\/r=.le))) s
theorem RD.of(r:Rl):RD (.str (nmR r)) r:=⟨rfl,zj6 r,zhQ r,zaR r,fun s=>by cases r<;>rfl⟩
section
variable {n:Nat}{v:List Int}{d e:D}(h:Lot n v){a0 a1 a2 a3 a4 a5 a6 a7 a8 a9 a10 a11 a12:Option Dd.D}(s:Sto){qs:List (Int×Int)}
theorem zjY {r:Rl} {m:Int} {uB:List (Int×Int)} (E:RD e r) (hq:qs=(m,(lp v:Int))::uB):uL (EV (some e) a1 a2 (some (.lst (qs.map pD))) a4 a5 a6 a7 a8 a9 a10 a11 a12) s=.ok (.nx (EV (some e) a1 a2 (some (.lst (qs.map pD))) a4 (some (zcX v r)) a6 a7 a8 a9 a10 a11 a12)) s:=by
 have i1:dIx (.lst (qs.map pD)) (.int 0) s=.ok (pD (m,(lp v:Int))) s:=by
  rw [hq];exact va (_cv _) rfl
 have i2:dIx (pD (m,(lp v:Int))) (.int 1) s=.ok (.int (lp v)) s:=z5k (r:=[m,(lp v:Int)]) (j:=1) s (by simp);have hg:(if nmR r="all" then D.int (lp v) else if nmR r="turn" then .int 0 else .non)=zcX v r:=by
  cases r;·rw [_o (by decide),_o (by decide)];rfl
  ·rw [_o (by decide),_o (by decide)];rfl
  ·rw [_d (by decide)];rfl
  ·rw [_o (by decide),_d (by decide)];rfl
 rw [uL,zW];have:zby "all" "turn" (eOp dIx (eOp dIx (zc 3) (eC (.int 0))) (eC (.int 1))) (eC (.int 0)) (zc 0) (EV (some e) a1 a2 (some (.lst (qs.map pD))) a4 a5 a6 a7 a8 a9 a10 a11 a12) s=.ok (zcX v r) s:=by
  unfold zby;rw [yk,yk,vr (d:=.lst (qs.map pD)) rfl,Rb,kz,Rb,i1,Rb,kz,Rb,i2,Rb,kz,Rb,vr (d:=e) rfl,Rb,E.eq];simp only;rw [hg]
 rw [this];rfl
theorem z9x(g:Int×Int->D)(fe:FE)(hfe:∀ a:Int×Int,fe [some (.int (gp v)),some (.int a.1),some (.int a.2)] s=.ok (g a) s)(hl:qs.length<=4): zT (wU (zc 3)) [some 4,none,none] (wz 1 2) (tOf (eOp dNe (zc 2) (zc 0))) fe (EV a0 a1 a2 (some (.lst (qs.map pD))) (some (.int (gp v))) a5 a6 a7 a8 a9 a10 a11 a12) s = .ok (.lst ((qs.filter fun a=>decide (a.2≠(gp v:Int))).map g)) s:= vk (s:=s) pD g (fun a=>decide (a.2≠(gp v:Int))) (fun a=>[some (.int (gp v)),some (.int a.1),some (.int a.2)]) qs (kN (vr rfl)) (fun a _=>by simp) (fun a _=>by simp) (fun a _ _=>hfe a) (by simp [cap];omega)
variable (he:ended v=false)(hm:∀ a,a∈qs ↔ a∈z41 v)(pw:qs.Pairwise fun a b=>Dd.lexLt a b=true)(hl:qs.length<=4)
include h he hm pw
theorem zbp:∃ uB,(qs.filter fun a=>decide (a.2≠(gp v:Int)))=(minL (nz (others v)),((lp (others v):Nat):Int))::uB:= z7N (z24 h) (uF h he) (fun a=>by rw [z2C h,<- hm];simp) (pw.filter _)
theorem zf7:(qs.filter fun a=>decide (a.2≠(gp v:Int))).map Prod.fst≠[]/\maxL ((qs.filter fun a=>decide (a.2≠(gp v:Int))).map Prod.fst)=maxL (others v)/\0<maxL (others v):= zeC (z24 h) (uF h he) (fun a=>by rw [z2C h,<- hm];simp)
include hl
theorem zk5:qA (EV a0 a1 a2 (some (.lst (qs.map pD))) (some (.int (gp v))) a5 a6 a7 a8 a9 a10 a11 a12) s=.ok (.nx (EV a0 a1 a2 (some (.lst (qs.map pD))) (some (.int (gp v))) (some (.int ((lp (others v):Nat):Int))) a6 a7 a8 a9 a10 a11 a12)) s:=by
 obtain ⟨uB,e⟩:=zbp h he hm pw;have c:=z9x (v:=v) (a0:=a0) (a1:=a1) (a2:=a2) (a5:=a5) (a6:=a6) (a7:=a7) (a8:=a8) (a9:=a9) (a10:=a10) (a11:=a11) (a12:=a12) s (fun a=>.int a.2) (zc 2) (fun a=>vr rfl) hl;rw [e] at c;rw [qA,zW,yk,c,Rb,kz,Rb,va (d:=.int ((lp (others v):Nat):Int)) (_cv _) rfl];rfl
theorem zkc:uY (EV a0 a1 a2 (some (.lst (qs.map pD))) (some (.int (gp v))) a5 a6 a7 a8 a9 a10 a11 a12) s=.ok (.nx (EV a0 a1 a2 (some (.lst (qs.map pD))) (some (.int (gp v))) a5 (some (.int (maxL (others v)))) a7 a8 a9 a10 a11 a12)) s:=by
 obtain ⟨ne,e,_⟩:=zf7 h he hm pw;have c:=z9x (v:=v) (a0:=a0) (a1:=a1) (a2:=a2) (a5:=a5) (a6:=a6) (a7:=a7) (a8:=a8) (a9:=a9) (a10:=a10) (a11:=a11) (a12:=a12) s (fun a=>.int a.1) (zc 1) (fun a=>vr rfl) hl;have em:((qs.filter fun a=>decide (a.2≠(gp v:Int))).map fun a=>D.int a.1)=iL ((qs.filter fun a=>decide (a.2≠(gp v:Int))).map Prod.fst):=by simp [_bc]
 rw [em] at c;rw [uY,zW,xu c,zfW s ne,e];rfl
omit pw hl hm
theorem zjF (D:LD d v):qf (EV a0 (some d) (some (.int v.length)) a3 (some (.int (gp v))) a5 (some (.int (maxL (others v)))) a7 a8 a9 a10 a11 a12) s = .ok (.nx (EV a0 (some d) (some (.int v.length)) a3 (some (.int (gp v))) (some (.int (((others v).idxOf (maxL (others v)):Nat):Int))) (some (.int (maxL (others v)))) a7 a8 a9 a10 a11 a12)) s:=by
 have l4:=h.le4;have ol:=xF h.ne;have one:others v≠[]:=fun z=>by rw [z] at ol;simp at ol;omega
 have pos:0<maxL (others v):=by
  obtain ⟨y,hy⟩:=List.exists_mem_of_ne_nil _ (uF h he);obtain ⟨y1,y2⟩:=uE.mp hy;have:=z24 h y y1;have:=maxL_ge (xs:=others v) y y1;omega
 obtain ⟨uB,e⟩:=z86 (w:=others v) (maxL_mem one) (fun i=>decide (v.getD i 0=maxL (others v))&&decide (i≠gp v)) (fun i _=>by
  rw [wK h.ne];by_cases q:i=gp v
  ·simp only [q,_A,ne_eq,not_true_eq_false,_b6,Bool.and_false];symm;simp;omega
  ·simp [q]);rw [ol] at e;have c:=vk (s:=s) (mp:=[some 6,some 4,some 1,none]) (fg:=vw 3) (ft:=zbL (tOf (eOp dEq (eOp dIx (zc 2) (zc 3)) (zc 0))) (tOf (eOp dNe (zc 3) (zc 1)))) (fe:=zc 3) (fun i:Nat=>Dd.D.int ((i:Nat):Int)) (fun i:Nat=>Dd.D.int ((i:Nat):Int)) (fun i=>decide (v.getD i 0=maxL (others v))&&decide (i≠gp v)) (fun i=>[some (.int (maxL (others v))),some (.int (gp v)),some d,some (.int ((i:Nat):Int))]) (List.range v.length) (jY (n:=v.length) (Z:=EV a0 (some d) (some (.int v.length)) a3 (some (.int (gp v))) a5 (some (.int (maxL (others v)))) a7 a8 a9 a10 a11 a12) (ar:=za (zc 2) zh) (by omega) (by simp)) (fun i _=>by simp) (fun i hi=>by
   have hi':i<v.length:=by simpa using hi
   have e1:=D.ix s i hi';have e3:decide ((i:Int)≠(gp v:Int))=decide (i≠gp v):=by
    by_cases q:i=gp v;·simp [q]
    ·have:¬ (i:Int)=(gp v:Int):=by omega
     simp [q,this]
   simp only [z6c,vq,yk,yg,_e,_h,Rb,e1,z8I,zeg,e3];cases decide (v.getD i 0=maxL (others v))<;>simp) (fun i _ _=>by simp) (by simp [cap];omega);rw [e] at c;rw [qf,zW,z2j (v:=v) c];rfl
omit he
theorem ziu (b:Nat):wM (EV a0 a1 (some (.int v.length)) a3 a4 (some (.int b)) a6 a7 a8 a9 a10 a11 a12) s=.ok (.nx (EV a0 a1 (some (.int v.length)) a3 a4 (some (.int b)) a6 (some (.lst (nL (xN v b)))) a8 a9 a10 a11 a12)) s:=by
 have l4:=h.le4;have c:=vk (s:=s) (mp:=[some 5,none]) (fg:=vw 1) (ft:=tOf (eOp dNe (zc 1) (zc 0))) (fe:=zc 1) (fun i:Nat=>Dd.D.int ((i:Nat):Int)) (fun i:Nat=>Dd.D.int ((i:Nat):Int)) (fun i=>decide (i≠b)) (fun i=>[some (.int b),some (.int ((i:Nat):Int))]) (List.range v.length) (jY (n:=v.length) (Z:=EV a0 a1 (some (.int v.length)) a3 a4 (some (.int b)) a6 a7 a8 a9 a10 a11 a12) (ar:=za (zc 2) zh) (by omega) (by simp)) (fun i _=>by simp) (fun i hi=>by
   have e3:decide ((i:Int)≠(b:Int))=decide (i≠b):=by
    by_cases q:i=b;·simp [q]
    ·have:¬ (i:Int)=(b:Int):=by omega
     simp [q,this]
   simp only [vq,yk,yg,_e,_h,Rb,zeg,e3]) (fun i _ _=>by simp) (by simp [cap];omega);rw [wM,zW,c];rfl
end
theorem zcx(n:Nat):(List.replicate n [D.int 0]).flatten=iL (List.replicate n 0):=by induction n with
 | zero=>rfl | succ n ih=>simp [_Y,ih]
theorem zel{fa fb:FE}{Z:Ev}{s s2:Sto}{L:Nat}{xs:List D}{x:D}(ha:fa Z s=.ok (.loc L) s)(hb:fb Z s=.ok x s2)(at_:s2[L]? = some xs)(hl:xs.length<1000)(hx:x.flat=true):vm (zai fa fb) Z s=.ok (.nx Z) (s2.set L (xs++[x])):=by
 rw [wI,z3C,ha,Rb];simp only;rw [hb,Rb];simp only [at_];rw [_d ⟨hx,by simp [cap];omega⟩];rfl
theorem z4i{f g:FS}{t:FT}{Z:Ev}{s:Sto}(h:t Z s=.ok true s):fIf t f g Z s=f Z s:=by rw [z1a,h,Rb,_d rfl]
section
variable {n m:Nat}{v:List Int}{d e:D}(h:LotB n m v)(D:LD d v)(hm:m<=1999){a0 a1 a2 a3 a4 a5 a6 a7 a8 a9 a10 a11 a12:Option Dd.D}(s:Sto){b:Nat}(hb:b<v.length)
include h hm in
theorem zcU{i:Nat}(hi:i<v.length):0<=v.getD i 0/\v.getD i 0<2 ^ 2000:=by
 refine ⟨h.nn _ (Pm.getD_mem hi),_bv (h.bd _ (Pm.getD_mem hi)) ?_⟩;have:(2:Nat) ^ m<=2 ^ 2000:=_ad (by decide) (by omega);have:=Int.ofNat_le.mpr this;simpa using this
include h in
theorem ziH:yZ (EV a0 a1 (some (.int v.length)) a3 a4 a5 a6 a7 a8 a9 a10 a11 a12) s=.ok (.nx (EV a0 a1 (some (.int v.length)) a3 a4 a5 a6 a7 (some (.loc (s++[[Dd.D.int 0]]).length)) a9 a10 a11 a12)) ((s++[[Dd.D.int 0]])++[iL (List.replicate v.length 0)]):=by
 have l4:=h.toLot.le4;have e0:zar (za (eC (.int 0)) zh) (EV a0 a1 (some (.int v.length)) a3 a4 a5 a6 a7 a8 a9 a10 a11 a12) s=.ok (.loc s.length) (s++[[Dd.D.int 0]]):=by
  simp only [z3z,zo,zG,kz,Rb];rw [_d ⟨by simp [cap],yh [0]⟩]
 have e1:z9n (.loc s.length) (.int v.length) (s++[[Dd.D.int 0]])=.ok (.loc (s++[[Dd.D.int 0]]).length) ((s++[[Dd.D.int 0]])++[iL (List.replicate v.length 0)]):=by
  have lo:Dd.listOf (s++[[Dd.D.int 0]]) (.loc s.length)=some [Dd.D.int 0]:=by simp [Dd.listOf]
  simp only [z9n,lo,_aR,zcx];rw [_d ⟨by simp [cap];omega,by omega,by omega,yh _⟩]
 rw [yZ,zW,yk,e0,Rb,vr (d:=.int v.length) rfl,Rb,e1];rfl
include h D hm hb
theorem zeH {S0:Sto} {all:List Dd.D}:∀ (ps:List Nat) (xs:List Int) (p9:Option Dd.D),(∀ i∈ps,i<v.length)->xs.length=v.length-> ∃ p9',xG [] all (fun d Z s=>(vw 9 d Z s).bind fun Z' s'=>yS Z' s') (nL ps) (EV a0 (some d) a2 a3 a4 (some (.int b)) a6 a7 (some (.loc S0.length)) p9 a10 a11 a12) (S0++[iL xs]) = .ok (.nx (EV a0 (some d) a2 a3 a4 (some (.int b)) a6 a7 (some (.loc S0.length)) p9' a10 a11 a12)) (S0++[iL (if 0<v.getD b 0 then z9D v (v.getD b 0) ps xs else xs)])
 | [],xs,p9,_,_=>⟨p9,by simp [xG,okG,z9D]⟩ | i::ps,xs,p9,hi,hl=>by
  have i0:=hi i (.head _);have B:=zcU h hm hb;have S:=(S0++[iL xs]);have ixb:=D.ix (S0++[iL xs]) b hb;have ixi:=D.ix (S0++[iL xs]) i i0;have tst:tOf (eOp dGt (eOp dIx (zc 1) (zc 5)) (eC (.int 0))) (EV a0 (some d) a2 a3 a4 (some (.int b)) a6 a7 (some (.loc S0.length)) (some (.int i)) a10 a11 a12) (S0++[iL xs])=.ok (decide (0<v.getD b 0)) (S0++[iL xs]):=by simp only [vq,yk,yg,kz,_e,_h,Rb,ixb,zi3]
  by_cases q:0<v.getD b 0
  ·obtain ⟨p9',ih⟩:=zeH (S0:=S0) (all:=all) ps (xs.set i (v.getD i 0 / v.getD b 0)) (some (.int i)) (fun j hj=>hi j (.tail _ hj)) (by simpa using hl);refine ⟨p9',?_⟩;have body:yS (EV a0 (some d) a2 a3 a4 (some (.int b)) a6 a7 (some (.loc S0.length)) (some (.int i)) a10 a11 a12) (S0++[iL xs])=.ok (.nx (EV a0 (some d) a2 a3 a4 (some (.int b)) a6 a7 (some (.loc S0.length)) (some (.int i)) a10 a11 a12)) (S0++[iL (xs.set i (v.getD i 0 / v.getD b 0))]):=by
    rw [yS,z4i (by rw [tst];simp only [q,_cw]),jV];rw [z1B (s1:=S0++[iL xs]) (s2:=S0++[iL xs]) (L:=S0.length) (xs:=xs) (i:=(i:Int)) (x:=v.getD i 0 / v.getD b 0) (by
     rw [yk,op2 (x:=d) (y:=.int i) (vr rfl) (vr rfl),ixi,Rb,op2 (x:=d) (y:=.int b) (vr rfl) (vr rfl),ixb,Rb];exact zac _ q B.2) (vr rfl) (vr rfl) (by simp) (by omega) (by omega)];congr 1;rw [_aw _ _ (by omega)];simp
   rw [show nL (i::ps)=Dd.D.int i::nL ps from rfl,xG,_d (by intro p hp;simp at hp),z3w,Rb];simp only [_ac,_ab];rw [body,Rb];simp only;rw [ih];simp only [q,_A];rfl
  ·obtain ⟨p9',ih⟩:=zeH (S0:=S0) (all:=all) ps xs (some (.int i)) (fun j hj=>hi j (.tail _ hj)) hl;refine ⟨p9',?_⟩;have body:yS (EV a0 (some d) a2 a3 a4 (some (.int b)) a6 a7 (some (.loc S0.length)) (some (.int i)) a10 a11 a12) (S0++[iL xs])=.ok (.nx (EV a0 (some d) a2 a3 a4 (some (.int b)) a6 a7 (some (.loc S0.length)) (some (.int i)) a10 a11 a12)) (S0++[iL xs]):=by
    rw [yS,zbi (by rw [tst];simp only [q,_b6])];rfl
   rw [show nL (i::ps)=Dd.D.int i::nL ps from rfl,xG,_d (by intro p hp;simp at hp),z3w,Rb];simp only [_ac,_ab];rw [body,Rb];simp only;rw [ih];simp only [q,_bq]
omit h D hm
theorem z9V(Q:List Int)(hQ:Q.length=v.length)(z:Int):((enP v).map fun p:Int×Nat=>Dd.D.int (p.1-Q.getD p.2 0*z))=iL (List.zipWith (fun x q=>x-q*z) v Q):=by
 apply _aI;·simp [enP,hQ]
 ·intro i h1 h2;have hi:i<v.length:=by simpa [enP] using h1
  simp [enP,_s,hQ,hi]
include h D hm
theorem ziS {Q:List Int} {L:Nat} (hs:s[L]? = some (iL Q)) (hQ:Q.length=v.length) (hq:∀ q∈Q,0<=q/\q<2 ^ m): yU (EV a0 (some d) a2 a3 a4 (some (.int b)) a6 a7 (some (.loc L)) a9 a10 a11 a12) s=.ok (.nx (EV a0 (some d) a2 a3 a4 (some (.int b)) a6 a7 (some (.loc L)) a9 (some (.lst (iL (left v Q b)))) a11 a12)) s:=by
 have l4:=h.toLot.le4;have B:=zcU h hm hb;have ixb:=D.ix s b hb;have c:=comp_map (s:=s) (mp:=[some 8,some 1,some 5,none,none]) (fg:=wz 3 4) (fe:=eOp z9B (zc 4) (eOp ve (eOp dIx (zc 0) (zc 3)) (eOp dIx (zc 1) (zc 2)))) (fun p:Int×Nat=>Dd.D.tup [.int ((p.2:Nat):Int),.int p.1]) (fun p=>Dd.D.int (p.1-Q.getD p.2 0*v.getD b 0)) (fun p=>[some (.loc L),some d,some (.int b),some (.int ((p.2:Nat):Int)),some (.int p.1)]) (enP v) (z7v (f:=zc 1) (Z:=EV a0 (some d) a2 a3 a4 (some (.int b)) a6 a7 (some (.loc L)) a9 a10 a11 a12) (by rw [<- D.eq];exact vr rfl)) (fun p _=>by simp) (fun p hp=>by
   have g:=z71.mp hp;have hi:p.2<Q.length:=by rw [hQ];exact (_c.mp g).1
   have e1:=z7w (s:=s) (l:=L) (i:=(p.2:Int)) (d:=.int (Q.getD p.2 0)) hs (by omega) (by simp [_s,hi]);have q1:=hq _ (Pm.getD_mem hi);have q2:Q.getD p.2 0<2 ^ 2000:=_bv q1.2 (by
    have:(2:Nat) ^ m<=2 ^ 2000:=_ad (by decide) (by omega);have:=Int.ofNat_le.mpr this;simpa using this);rw [yk,vr (d:=.int p.1) rfl,Rb,yk,op2 (x:=.loc L) (y:=.int p.2) (vr rfl) (vr rfl),e1,Rb,op2 (x:=d) (y:=.int b) (vr rfl) (vr rfl),ixb,Rb,jm s q1.1 q2 B.1 B.2,Rb];simp) (by simp [enP,cap];omega);rw [z9V hb Q hQ] at c;rw [yU,zW,c];rfl
end
theorem zaX{α:Type}{fi:FI}{mp:List (Option Nat)}{fg:FG}{fe:FE}{Z:Ev}{s:Sto}(g f:α->D)(ev:α->Ev)(l:List α) (hi:fi Z s=.ok (l.map g,[]) s)(hg:∀ a∈l,fg (g a) (xl mp Z) s=.ok (ev a) s)(he:∀ a∈l,fe (ev a) s=.ok (f a) s)(hl:l.length<=cap)(hf:D.flat.flats (l.map f)=true): kL fi mp fg wS fe Z s=.ok (.loc s.length) (s++[l.map f]):=by
 rw [zbs,jp,hi,Rb];rw [kP g f (fun _=>true) l [] (by
  intro a ha;simp only [hg a ha,Rb];simp [he a ha]) (by simpa using hl)];rw [show l.filter (fun _=>true)=l from List.filter_eq_self.mpr (by simp)];simp only [_ao,Rb];rw [_d hf]
theorem z7m(xs:List D)(k:Nat):cutD xs none (some (k:Int))=xs.take k:=by
 have:=z3Y xs k [];simpa [dSl] using this
theorem z87(xs:List D)(k:Nat):cutD xs (some (k:Int)) none=xs.drop k:=by
 have:=z2n xs k [];simpa [dSl] using this
theorem z5e{line:List Int}{b:Nat}(hb:b<line.length)(q:Int):z1b b line q=line.set b (line.getD b 0+q):=by
 unfold z1b;rw [_bA,_d hb];simp
def yF(n i:Nat):List Int:=(List.range n).map fun c=>if i=c then 1 else 0
theorem zdm{x:D}{xs:List D}{k:Nat}{Z:Ev}{s:Sto}(hx:Z[k]? = some (some x))(hl:Dd.listOf s x=some xs)(h:x=.lst xs\/∃ l,x=.loc l)(hc:xs.length<=4):eOp vM (eSl (zc k) (uu (eC (.int 1))) yG) (eSl (zc k) yG (uu (eC (.int 1)))) Z s=.ok (.lst (rot xs)) s:=by
 have d1:dSl x (some 1) none s=.ok (.lst (xs.drop 1)) s:=by
  rcases h with rfl | ⟨l,rfl⟩
  ·have:=z87 xs 1;simp only [dSl,hl];exact _am (fun z=>R.ok (D.lst z) s) this
  ·have:=z87 xs 1;simp only [dSl,hl];exact _am (fun z=>R.ok (D.lst z) s) this
 have d2:dSl x none (some 1) s=.ok (.lst (xs.take 1)) s:=by
  rcases h with rfl | ⟨l,rfl⟩
  ·have:=z7m xs 1;simp only [dSl,hl];exact _am (fun z=>R.ok (D.lst z) s) this
  ·have:=z7m xs 1;simp only [dSl,hl];exact _am (fun z=>R.ok (D.lst z) s) this
 rw [yk,zb0,vr hx,Rb,z22,kz,Rb];simp only [Rb,jb];rw [d1,Rb,zb0,vr hx,Rb];simp only [Rb,jb,z22,kz];rw [d2,Rb,zdi,_d (by simp [cap];omega)];rfl
section
variable {n m:Nat}{v:List Int}{d e:D}{r:Rl}(h:LotB n m v)(E:RD e r){a0 a1 a2 a3 a4 a5 a6 a7 a8 a9 a10 a11 a12:Option Dd.D}{b:Nat}(hb:b<v.length){Q:List Int}(hQ:Q.length=v.length)
include h E hb hQ
theorem ziy {S:Sto} {L i:Nat} (hL:S[L]? = some (iL Q)) (hi:i<v.length) (A:List D) (hA:A.length<1000) (J:Sto) (p12:Option D): ∃ J' p12',(zy xR (zy xW (zy yz xX))) (EV (some e) a1 (some (.int v.length)) a3 a4 (some (.int b)) a6 a7 (some (.loc L)) (some (.int i)) a10 (some (.loc S.length)) p12) (S++A::J) = .ok (.nx (EV (some e) a1 (some (.int v.length)) a3 a4 (some (.int b)) a6 a7 (some (.loc L)) (some (.int i)) a10 (some (.loc S.length)) p12')) (S++(A++[rD (mvd r (z1b b (yF v.length i) (Q.getD i 0)))])::J'):=by
 have l4:=h.toLot.le4;have ln:(yF v.length i).length=v.length:=by simp [yF]
 have hL':L<S.length:=(_c.mp hL).1;have em:((List.range v.length).map fun c:Nat=>D.int (if i=c then 1 else 0))=iL (yF v.length i):=by simp [yF,_bc]
 have c:=zaX (s:=S++A::J) (mp:=[some 9,none]) (fg:=vw 1) (fe:=ze zbf (za (eOp dEq (zc 0) (zc 1)) zh)) (fun c:Nat=>D.int ((c:Nat):Int)) (fun c:Nat=>D.int (if i=c then 1 else 0)) (fun c=>[some (.int i),some (.int ((c:Nat):Int))]) (List.range v.length) (jY (n:=v.length) (Z:=EV (some e) a1 (some (.int v.length)) a3 a4 (some (.int b)) a6 a7 (some (.loc L)) (some (.int i)) a10 (some (.loc S.length)) p12) (ar:=za (zc 2) zh) (by omega) (by simp)) (fun c _=>by simp) (fun c _=>by
   rw [xu (x:=.bl (decide ((i:Int)=(c:Int)))) (by simp)];by_cases q:i=c;·simp [zbf,q]
   ·have:¬ (i:Int)=(c:Int):=by omega
    simp [zbf,q,this]) (by simp [cap];omega) (by rw [em];exact yh _);rw [em] at c;have f20:xR (EV (some e) a1 (some (.int v.length)) a3 a4 (some (.int b)) a6 a7 (some (.loc L)) (some (.int i)) a10 (some (.loc S.length)) p12) (S++A::J) = .ok (.nx (EV (some e) a1 (some (.int v.length)) a3 a4 (some (.int b)) a6 a7 (some (.loc L)) (some (.int i)) a10 (some (.loc S.length)) (some (.loc (S++A::J).length)))) ((S++A::J)++[iL (yF v.length i)]):=by
  rw [xR,zW,c];rfl
 have aT:((S++A::J)++[iL (yF v.length i)])[(S++A::J).length]? = some (iL (yF v.length i)):=by simp
 have aL:((S++A::J)++[iL (yF v.length i)])[L]? = some (iL Q):=by rw [_aC,_v hL',hL]
 have i1:=z7w (i:=(b:Int)) (d:=.int ((yF v.length i).getD b 0)) aT (by omega) (by simp [_s,ln,hb]);have i2:=z7w (i:=(i:Int)) (d:=.int (Q.getD i 0)) aL (by omega) (by simp [_s,hQ,hi]);have hs21:((S++A::J)++[iL (yF v.length i)]).set (S++A::J).length (iL ((yF v.length i).set (b:Int).toNat ((yF v.length i).getD b 0+Q.getD i 0)))=(S++A::J)++[iL (z1b b (yF v.length i) (Q.getD i 0))]:=by
  rw [_aw _ _ (by omega),z5e (by rw [ln];exact hb)];simp
 have f21:xW (EV (some e) a1 (some (.int v.length)) a3 a4 (some (.int b)) a6 a7 (some (.loc L)) (some (.int i)) a10 (some (.loc S.length)) (some (.loc (S++A::J).length))) ((S++A::J)++[iL (yF v.length i)]) = .ok (.nx (EV (some e) a1 (some (.int v.length)) a3 a4 (some (.int b)) a6 a7 (some (.loc L)) (some (.int i)) a10 (some (.loc S.length)) (some (.loc (S++A::J).length)))) ((S++A::J)++[iL (z1b b (yF v.length i) (Q.getD i 0))]):=by rw [xW,z1B (s1:=(S++A::J)++[iL (yF v.length i)]) (s2:=(S++A::J)++[iL (yF v.length i)]) (L:=(S++A::J).length) (xs:=yF v.length i) (i:=(b:Int)) (x:=(yF v.length i).getD b 0+Q.getD i 0) (by
   rw [yk,op2 (x:=.loc (S++A::J).length) (y:=.int b) (vr rfl) (vr rfl),i1,Rb,op2 (x:=.loc L) (y:=.int i) (vr rfl) (vr rfl),i2,Rb];simp) (vr rfl) (vr rfl) aT (by omega) (by omega),hs21]
 have lt4:(iL (z1b b (yF v.length i) (Q.getD i 0))).length<=4:=by
  rw [z5e (by rw [ln];exact hb)];simp [ln];omega
 generalize hW:iL (z1b b (yF v.length i) (Q.getD i 0))=W at *;have aW:((S++A::J)++[W])[(S++A::J).length]? = some W:=by simp
 have ot:=E.tu ((S++A::J)++[W]);have aA:((S++A::J)++[W])[S.length]? = some A:=by simp
 have fin:∀ (x:D) (row:List Int),x.flat=true->x=rD row->∀ Z:Ev,Z[11]? = some (some (.loc S.length))->(∃ y,Z[12]? = some (some y)/\vY [y] ((S++A::J)++[W])=.ok x ((S++A::J)++[W]))->xX Z ((S++A::J)++[W])=.ok (.nx Z) (S++(A++[x])::(J++[W])):=fun x row fx hx Z h11 ⟨y,h12,g⟩=>by
  rw [xX,zel (s2:=(S++A::J)++[W]) (L:=S.length) (xs:=A) (x:=x) (vr h11) (by rw [xu (vr h12)];exact g) aA hA fx];have hs24:((S++A::J)++[W]).set S.length (A++[x])=S++(A++[x])::(J++[W]):=by
   rw [_aC,_aw _ _ (by omega)];simp
  rw [hs24]
 by_cases q:r=.tu
 ·refine ⟨J++[W],some (.lst (rot W)),?_⟩;have f22:yz (EV (some e) a1 (some (.int v.length)) a3 a4 (some (.int b)) a6 a7 (some (.loc L)) (some (.int i)) a10 (some (.loc S.length)) (some (.loc (S++A::J).length))) ((S++A::J)++[W]) = .ok (.nx (EV (some e) a1 (some (.int v.length)) a3 a4 (some (.int b)) a6 a7 (some (.loc L)) (some (.int i)) a10 (some (.loc S.length)) (some (.lst (rot W))))) ((S++A::J)++[W]):=by
   rw [yz,z4i (by rw [vq,op2 (x:=e) (y:=.str "turn") (vr rfl) rfl,ot];simp [q]),jW,zW,zdm (x:=.loc (S++A::J).length) (xs:=W) (k:=12) rfl (by simp [Dd.listOf]) (.inr ⟨_,rfl⟩) lt4];rfl
  rw [zi f20,zi f21,zi f22];have e1:rD (mvd r (z1b b (yF v.length i) (Q.getD i 0)))=.tup (rot W):=by
   rw [q,z4W,<- hW];simp [rot,_cD,_cE]
  rw [e1];exact fin (.tup (rot W)) _ (by rw [<- e1];exact yh _) e1.symm _ rfl ⟨_,rfl,z84 _ _⟩
 ·refine ⟨J++[W],some (.loc (S++A::J).length),?_⟩;have f22:yz (EV (some e) a1 (some (.int v.length)) a3 a4 (some (.int b)) a6 a7 (some (.loc L)) (some (.int i)) a10 (some (.loc S.length)) (some (.loc (S++A::J).length))) ((S++A::J)++[W]) = .ok (.nx (EV (some e) a1 (some (.int v.length)) a3 a4 (some (.int b)) a6 a7 (some (.loc L)) (some (.int i)) a10 (some (.loc S.length)) (some (.loc (S++A::J).length)))) ((S++A::J)++[W]):=by
   rw [yz,zbi (by rw [vq,op2 (x:=e) (y:=.str "turn") (vr rfl) rfl,ot];simp [q])];rfl
  rw [zi f20,zi f21,zi f22];have e1:rD (mvd r (z1b b (yF v.length i) (Q.getD i 0)))=.tup W:=by rw [z3k q,<- hW]
  rw [e1];exact fin (.tup W) _ (by rw [<- e1];exact yh _) (by rw [<- e1]) _ rfl ⟨_,rfl,by simp [vY,zO]⟩
end
def z70(r:Rl)(b n:Nat)(Q:List Int)(i:Nat):D:=rD (mvd r (z1b b (yF n i) (Q.getD i 0)))
theorem zaF(r:Rl)(b:Nat)(Q:List Int):tD (zfu r b Q)=.tup ((List.range Q.length).map (z70 r b Q.length Q)):=by
 show D.tup _=D.tup _;congr 1;apply _aI;·simp [zfu,one]
 ·intro i h1 h2;have hi:i<Q.length:=by simpa using h2
  simp [zfu,one,z70,yF,hi]
section
variable {n m:Nat}{v:List Int}{d e:D}{r:Rl}(h:LotB n m v)(E:RD e r){a0 a1 a2 a3 a4 a5 a6 a7 a8 a9 a10 a11 a12:Option Dd.D}{b:Nat}(hb:b<v.length){Q:List Int}(hQ:Q.length=v.length)
include h E hb hQ
theorem zhh {S:Sto} {L:Nat} {all:List D} (hL:S[L]? = some (iL Q)):∀ (k j:Nat) (J:Sto) (p9 p12:Option D),j+k=v.length-> ∃ J' p9' p12',xG [] all (fun d Z s=>(vw 9 d Z s).bind fun Z' s'=>(zy xR (zy xW (zy yz xX))) Z' s') ((List.range' j k).map fun i=>D.int ((i:Nat):Int)) (EV (some e) a1 (some (.int v.length)) a3 a4 (some (.int b)) a6 a7 (some (.loc L)) p9 a10 (some (.loc S.length)) p12) (S++((List.range j).map (z70 r b v.length Q))::J) = .ok (.nx (EV (some e) a1 (some (.int v.length)) a3 a4 (some (.int b)) a6 a7 (some (.loc L)) p9' a10 (some (.loc S.length)) p12')) (S++((List.range (j+k)).map (z70 r b v.length Q))::J')
 | 0,j,J,p9,p12,_=>⟨J,p9,p12,by simp [xG,okG]⟩ | k+1,j,J,p9,p12,hj=>by
  have l4:=h.toLot.le4;obtain ⟨J1,q12,e1⟩:=ziy (a1:=a1) (a3:=a3) (a4:=a4) (a6:=a6) (a7:=a7) (a10:=a10) h E hb hQ hL (i:=j) (by omega) ((List.range j).map (z70 r b v.length Q)) (by simp;omega) J p12;obtain ⟨J2,q9,r12,e2⟩:=zhh hL k (j+1) J1 (some (.int j)) q12 (by omega);refine ⟨J2,q9,r12,?_⟩;have es:(List.range j).map (z70 r b v.length Q)++[rD (mvd r (z1b b (yF v.length j) (Q.getD j 0)))]=(List.range (j+1)).map (z70 r b v.length Q):=by
   rw [List.range_succ,List.map_append];rfl
  rw [es] at e1;rw [_cO,_w,xG,_d (by intro p hp;simp at hp),z3w,Rb];simp only [_ac,_ab];rw [e1,Rb];simp only;rw [e2,show j+1+k=j+(k+1) by omega]
theorem zis (D:LD d v) (hm:m<=1999) {ps:List Nat} (hps:∀ i∈ps,i<v.length) (hq:∀ q∈Q,0<=q/\q<2 ^ m) (eQ:(if 0<v.getD b 0 then z9D v (v.getD b 0) ps (List.replicate v.length 0) else List.replicate v.length 0)=Q) (s:Sto): ∃ s',(zy yZ (zy xf (zy yU (zy xa (zy yW (zy yp xb)))))) (EV (some e) (some d) (some (.int v.length)) a3 a4 (some (.int b)) a6 (some (.lst (nL ps))) a8 a9 a10 a11 a12) s = .ok (.rt (.tup [rD (mvd r (left v Q b)),tD (zfu r b Q)])) s'/\s'.take s.length=s:=by
 have l4:=h.toLot.le4;have f13:=ziH (a0:=some e) (a1:=some d) (a3:=a3) (a4:=a4) (a5:=some (.int b)) (a6:=a6) (a7:=some (.lst (nL ps))) (a8:=a8) (a9:=a9) (a10:=a10) (a11:=a11) (a12:=a12) h s;obtain ⟨p9,f14⟩:=zeH (a0:=some e) (a2:=some (.int v.length)) (a3:=a3) (a4:=a4) (a6:=a6) (a7:=some (.lst (nL ps))) (a10:=a10) (a11:=a11) (a12:=a12) h D hm hb (S0:=s++[[Dd.D.int 0]]) (all:=nL ps) ps (List.replicate v.length 0) a9 hps (by simp);rw [eQ] at f14;have g14:xf (EV (some e) (some d) (some (.int v.length)) a3 a4 (some (.int b)) a6 (some (.lst (nL ps))) (some (.loc (s++[[Dd.D.int 0]]).length)) a9 a10 a11 a12) ((s++[[Dd.D.int 0]])++[iL (List.replicate v.length 0)]) = .ok (.nx (EV (some e) (some d) (some (.int v.length)) a3 a4 (some (.int b)) a6 (some (.lst (nL ps))) (some (.loc (s++[[Dd.D.int 0]]).length)) p9 a10 a11 a12)) ((s++[[Dd.D.int 0]])++[iL Q]):=by
  rw [xf,z11,kN (xs:=nL ps) (vr rfl),Rb];exact f14
 generalize hS:(s++[[Dd.D.int 0]])++[iL Q]=S at *;have hL:S[(s++[[Dd.D.int 0]]).length]? = some (iL Q):=by rw [<- hS];simp
 have hpre:s <+: S:=by
  rw [<- hS,_aC];exact List.prefix_append _ _
 generalize hLL:(s++[[Dd.D.int 0]]).length=L at *;have f17:=ziS (a0:=some e) (a2:=some (.int v.length)) (a3:=a3) (a4:=a4) (a6:=a6) (a7:=some (.lst (nL ps))) (a9:=p9) (a10:=a10) (a11:=a11) (a12:=a12) h D hm S hb hL hQ hq;have f18:xa (EV (some e) (some d) (some (.int v.length)) a3 a4 (some (.int b)) a6 (some (.lst (nL ps))) (some (.loc L)) p9 (some (.lst (iL (left v Q b)))) a11 a12) S = .ok (.nx (EV (some e) (some d) (some (.int v.length)) a3 a4 (some (.int b)) a6 (some (.lst (nL ps))) (some (.loc L)) p9 (some (.lst (iL (left v Q b)))) (some (.loc S.length)) a12)) (S++((List.range 0).map (z70 r b v.length Q))::[]):=by
  rw [xa,zW,z3z,zG,Rb,_d ⟨by simp,rfl⟩];rfl
 obtain ⟨J,q9,q12,f19⟩:=zhh (a1:=some d) (a3:=a3) (a4:=a4) (a6:=a6) (a7:=some (.lst (nL ps))) (a10:=some (.lst (iL (left v Q b)))) h E hb hQ (all:=(List.range v.length).map fun i:Nat=>Dd.D.int ((i:Nat):Int)) hL v.length 0 [] p9 a12 (by omega);have g19:yW (EV (some e) (some d) (some (.int v.length)) a3 a4 (some (.int b)) a6 (some (.lst (nL ps))) (some (.loc L)) p9 (some (.lst (iL (left v Q b)))) (some (.loc S.length)) a12) (S++((List.range 0).map (z70 r b v.length Q))::[]) = .ok (.nx (EV (some e) (some d) (some (.int v.length)) a3 a4 (some (.int b)) a6 (some (.lst (nL ps))) (some (.loc L)) q9 (some (.lst (iL (left v Q b)))) (some (.loc S.length)) q12)) (S++((List.range (0+v.length)).map (z70 r b v.length Q))::J):=by
  rw [yW,z11,jY (n:=v.length) (s1:=S++((List.range 0).map (z70 r b v.length Q))::[]) (by omega) (by simp),Rb];rw [List.range_eq_range'] at f19 ⊢;exact f19
 rw [_ay] at g19;have aM:(S++((List.range v.length).map (z70 r b v.length Q))::J)[S.length]? = some ((List.range v.length).map (z70 r b v.length Q)):=by simp
 refine ⟨S++((List.range v.length).map (z70 r b v.length Q))::J,?_,?_⟩
 ·generalize hT:S++((List.range v.length).map (z70 r b v.length Q))::J=T at *;have ot:=E.tu T;have fin:∀ w:List Int,xb (EV (some e) (some d) (some (.int v.length)) a3 a4 (some (.int b)) a6 (some (.lst (nL ps))) (some (.loc L)) q9 (some (.lst (iL w))) (some (.loc S.length)) q12) T=.ok (.rt (.tup [rD w,tD (zfu r b Q)])) T:=fun w=>by
   have e1:vY [.lst (iL w)] T=.ok (rD w) T:=z84 _ _;have e2:vY [.loc S.length] T=.ok (tD (zfu r b Q)) T:=by
    rw [zaF,hQ];simp only [vY,zO,aM]
   rw [xb,yI,uC,zo,xu (x:=.lst (iL w)) (vr rfl),e1,Rb,zo,xu (x:=.loc S.length) (vr rfl),e2,Rb,zG];simp only [Rb];rw [_d (by simp [cap])];rfl
  rw [zi f13,zi g14,zi f17,zi f18,zi g19];have lw:(left v Q b).length=v.length:=by simp [left,hQ]
  by_cases q:r=.tu
  ·have f25:yp (EV (some e) (some d) (some (.int v.length)) a3 a4 (some (.int b)) a6 (some (.lst (nL ps))) (some (.loc L)) q9 (some (.lst (iL (left v Q b)))) (some (.loc S.length)) q12) T=.ok (.nx (EV (some e) (some d) (some (.int v.length)) a3 a4 (some (.int b)) a6 (some (.lst (nL ps))) (some (.loc L)) q9 (some (.lst (iL (mvd r (left v Q b))))) (some (.loc S.length)) q12)) T:=by
    have e3:rot (iL (left v Q b))=iL (mvd r (left v Q b)):=by
     rw [q,z4W];simp [rot,_cD,_cE]
    rw [yp,z4i (by rw [vq,op2 (x:=e) (y:=.str "turn") (vr rfl) rfl,ot];simp [q]),jP,zW,zdm (x:=.lst (iL (left v Q b))) (xs:=iL (left v Q b)) (k:=10) rfl (by simp [Dd.listOf]) (.inl rfl) (by simp [lw];omega),e3];rfl
   rw [zi f25];exact fin _
  ·have f25:yp (EV (some e) (some d) (some (.int v.length)) a3 a4 (some (.int b)) a6 (some (.lst (nL ps))) (some (.loc L)) q9 (some (.lst (iL (left v Q b)))) (some (.loc S.length)) q12) T=.ok (.nx (EV (some e) (some d) (some (.int v.length)) a3 a4 (some (.int b)) a6 (some (.lst (nL ps))) (some (.loc L)) q9 (some (.lst (iL (left v Q b)))) (some (.loc S.length)) q12)) T:=by
    rw [yp,zbi (by rw [vq,op2 (x:=e) (y:=.str "turn") (vr rfl) rfl,ot];simp [q])];rfl
   rw [zi f25,z3k q];exact fin _
 ·obtain ⟨t,rfl⟩:=hpre;rw [_aC];simp
end
theorem zbO(w:List Int)(T:Tb):(D.tup [rD w,tD T]).flat=true:=by
 have h1:(rD w).flat=true:=yh _;have h2:(tD T).flat=true:=by
  show D.flat.flats (T.map rD)=true;induction T with
  | nil=>rfl | cons r T ih=>
   show ((rD r).flat&&D.flat.flats (T.map rD))=true;rw [ih,Bool.and_true];exact yh r
 show ((rD w).flat&&((tD T).flat&&D.flat.flats []))=true;rw [h1,h2];rfl
section
variable {n m:Nat}{v:List Int}(r:Rl)(h:LotB n m v)(he:ended v=false)(hm:m<=1999)
include h he hm
theorem zdR (s:Sto):xZ [.str (nmR r),rD v] s=.ok (.tup [rD (stp r v),tD (z74 r v)]) s:=by
 have key:∀ d e:D,LD d v->RD e r->xZ [e,d] s=.ok (.tup [rD (stp r v),tD (z74 r v)]) s:=fun d e D E=>by
  have l4:=h.toLot.le4;have st:zq ["_law_rule","_law_lot_here","_law_size","_law_order","_law_top","_law_by","_law_most","_law_some","_law_quotients","_law_place","_law_later","_law_lines","_law_line"] [e,d]=EV (some e) (some d) none none none none none none none none none none none:=rfl;have f1:=zjN (a0:=some e) (a2:=none) (a3:=none) (a4:=none) (a5:=none) (a6:=none) (a7:=none) (a8:=none) (a9:=none) (a10:=none) (a11:=none) (a12:=none) h.toLot D s;obtain ⟨qs,f2,hmm,pw⟩:=zbG h.toLot he (EV (some e) (some d) (some (.int v.length)) none none none none none none none none none none) s (by rw [<- D.eq];rfl);have f2':vh (EV (some e) (some d) (some (.int v.length)) none none none none none none none none none none) s=.ok (.nx (EV (some e) (some d) (some (.int v.length)) (some (.lst (qs.map pD))) none none none none none none none none none)) s:=f2;have ql:qs.length<=4:=by
   have nd:qs.Nodup:=pw.imp fun {a b} q z=>by rw [z,z9I] at q;cases q
   have h2:=zcR h.toLot he;have:qs.length<=(z41 v).length:=List.Nodup.length_le_of_subset nd fun a ha=>(hmm a).mp ha;omega
  have f3:=zjZ (a0:=some e) (a3:=some (.lst (qs.map pD))) (a4:=none) (a5:=none) (a6:=none) (a7:=none) (a8:=none) (a9:=none) (a10:=none) (a11:=none) (a12:=none) h.toLot D s;obtain ⟨uB,eh⟩:=z7N h.nn h.toLot.nzne hmm pw;have f4:=zjY (v:=v) (a1:=some d) (a2:=some (.int v.length)) (a4:=some (.int (gp v))) (a5:=none) (a6:=none) (a7:=none) (a8:=none) (a9:=none) (a10:=none) (a11:=none) (a12:=none) s E eh;have dl:=kg r h.toLot he;have qb:=zfV r h he;have fin:∀ (a6:Option Dd.D) (ps:List Nat),(∀ i∈ps,i<v.length)->(if 0<v.getD (deal r v).1 0 then z9D v (v.getD (deal r v).1 0) ps (List.replicate v.length 0) else List.replicate v.length 0)=yy v (deal r v)-> (zy xE (zy xH (zy wM (zy xc (zy yZ (zy xf (zy yU (zy xa (zy yW (zy yp xb)))))))))) (EV (some e) (some d) (some (.int v.length)) (some (.lst (qs.map pD))) (some (.int (gp v))) (some (zcX v r)) none none none none none none none) s = (zy yZ (zy xf (zy yU (zy xa (zy yW (zy yp xb)))))) (EV (some e) (some d) (some (.int v.length)) (some (.lst (qs.map pD))) (some (.int (gp v))) (some (.int (((deal r v).1:Nat):Int))) a6 (some (.lst (nL ps))) none none none none none) s-> xZ [e,d] s=.ok (.tup [rD (stp r v),tD (z74 r v)]) s:=fun a6 ps hps eQ eF=>by
   obtain ⟨s',et,tk⟩:=zis (a3:=some (.lst (qs.map pD))) (a4:=some (.int (gp v))) (a6:=a6) (a8:=none) (a9:=none) (a10:=none) (a11:=none) (a12:=none) h E dl.lt (Q:=yy v (deal r v)) (xT _ _) D hm hps qb eQ s;simp only [xZ,za4,Mof,z0W,st,_i,_l,_A];rw [zi f1,zi f2',zi f3,zi f4,eF,et];simp only;rw [z3j (zbO _ _),tk];rfl
  have ol:=E.le s;have on:=E.nx s;have oi:=E.in_ s;have no5:r≠.le->∀ x,xE (EV (some e) (some d) (some (.int v.length)) (some (.lst (qs.map pD))) (some (.int (gp v))) x none none none none none none none) s=.ok (.nx (EV (some e) (some d) (some (.int v.length)) (some (.lst (qs.map pD))) (some (.int (gp v))) x none none none none none none none)) s:=fun q x=>by
   rw [xE,zbi (by rw [vq,op2 (x:=e) (y:=.str "least") (vr rfl) rfl,ol];simp [q])];rfl
  have no7:r≠.nx->∀ x,xH (EV (some e) (some d) (some (.int v.length)) (some (.lst (qs.map pD))) (some (.int (gp v))) x none none none none none none none) s=.ok (.nx (EV (some e) (some d) (some (.int v.length)) (some (.lst (qs.map pD))) (some (.int (gp v))) x none none none none none none none)) s:=fun q x=>by
   rw [xH,zbi (by rw [vq,op2 (x:=e) (y:=.str "next") (vr rfl) rfl,on];simp [q])];rfl
  have row11:∀ (x6:Option Dd.D) (b:Nat) (z:Option Dd.D),(r=.nx\/r=.le)->xc (EV (some e) (some d) (some (.int v.length)) (some (.lst (qs.map pD))) (some (.int (gp v))) (some (.int ((b:Nat):Int))) x6 z none none none none none) s = .ok (.nx (EV (some e) (some d) (some (.int v.length)) (some (.lst (qs.map pD))) (some (.int (gp v))) (some (.int ((b:Nat):Int))) x6 (some (.lst (nL [gp v]))) none none none none none)) s:=fun x6 b z q=>by
   rw [xc,z4i (by rw [vq,op2 (x:=e) (y:=.tup [.str "next",.str "least"]) (vr rfl) rfl,oi];simp [q]),jT,zW,z0O,zo,vr (d:=.int (gp v)) rfl];simp only [Rb,zG];rw [_d (by simp [cap])];rfl
  have no11:∀ (x6:Option Dd.D) (b:Nat) (z:Option Dd.D),¬ (r=.nx\/r=.le)->xc (EV (some e) (some d) (some (.int v.length)) (some (.lst (qs.map pD))) (some (.int (gp v))) (some (.int ((b:Nat):Int))) x6 z none none none none none) s = .ok (.nx (EV (some e) (some d) (some (.int v.length)) (some (.lst (qs.map pD))) (some (.int (gp v))) (some (.int ((b:Nat):Int))) x6 z none none none none none)) s:=fun x6 b z q=>by
   rw [xc,zbi (by rw [vq,op2 (x:=e) (y:=.tup [.str "next",.str "least"]) (vr rfl) rfl,oi];simp [q])];rfl
  have row10:=fun (x6:Option Dd.D) (b:Nat)=>ziu (a0:=some e) (a1:=some d) (a3:=some (.lst (qs.map pD))) (a4:=some (.int (gp v))) (a6:=x6) (a7:=none) (a8:=none) (a9:=none) (a10:=none) (a11:=none) (a12:=none) h.toLot s b;have gpl:=(z6J h.toLot.ne).1;have posd:(deal r v).2≠[]->0<v.getD (deal r v).1 0:=fun q=>dl.pos.resolve_left q;cases hr:r with
  | nx=>
   subst hr;have p0:=posd (by simp [deal]);refine fin (some (.int (maxL (others v)))) [gp v] (by simpa using gpl) (by rw [_d p0,jE];rfl) ?_;have f7:xH (EV (some e) (some d) (some (.int v.length)) (some (.lst (qs.map pD))) (some (.int (gp v))) (some (zcX v .nx)) none none none none none none none) s=.ok (.nx (EV (some e) (some d) (some (.int v.length)) (some (.lst (qs.map pD))) (some (.int (gp v))) (some (.int (((deal .nx v).1:Nat):Int))) (some (.int (maxL (others v)))) none none none none none none)) s:=by
    rw [xH,z4i (by rw [vq,op2 (x:=e) (y:=.str "next") (vr rfl) rfl,on];simp),zi (zkc h.toLot s he hmm pw ql)];exact zjF h.toLot s he D
   rw [zi (no5 (by decide) _),zi f7,zi (row10 _ _),zi (row11 _ _ _ (.inl rfl))] | le=>
   subst hr;have p0:=posd (by simp [deal]);refine fin none [gp v] (by simpa using gpl) (by rw [_d p0,jE];rfl) ?_;have f5:xE (EV (some e) (some d) (some (.int v.length)) (some (.lst (qs.map pD))) (some (.int (gp v))) (some (zcX v .le)) none none none none none none none) s=.ok (.nx (EV (some e) (some d) (some (.int v.length)) (some (.lst (qs.map pD))) (some (.int (gp v))) (some (.int (((deal .le v).1:Nat):Int))) none none none none none none none)) s:=by
    rw [xE,z4i (by rw [vq,op2 (x:=e) (y:=.str "least") (vr rfl) rfl,ol];simp)];exact zk5 h.toLot s he hmm pw ql
   rw [zi f5,zi (no7 (by decide) _),zi (row10 _ _),zi (row11 _ _ _ (.inr rfl))] | al=>
   subst hr;have p0:0<v.getD (deal .al v).1 0:=by
    obtain ⟨_,l2,l3⟩:=z6G h.toLot.nzne;have:=Pm.wu h.nn (lp v);show 0<v.getD (lp v) 0;omega
   refine fin none (xN v (lp v)) (fun i hi=>(wH.mp hi).1) (by rw [_d p0,jE];rfl) ?_;rw [zi (no5 (by decide) _),zi (no7 (by decide) _),show zcX v .al=Dd.D.int (lp v) from rfl,zi (row10 none (lp v)),zi (no11 _ _ _ (by decide))];rfl | tu=>
   subst hr;refine fin none (xN v 0) (fun i hi=>(wH.mp hi).1) ?_ ?_
   ·by_cases q:v.getD 0 0=0
    ·have e2:deal .tu v=(0,[]):=by
      show (0,if v.getD 0 0=0 then [] else xN v 0)=_;rw [_d q]
     rw [e2,_o (by show ¬ 0<v.getD 0 0;omega),z9M]
    ·have e2:deal .tu v=(0,xN v 0):=by
      show (0,if v.getD 0 0=0 then [] else xN v 0)=_;rw [_o q]
     have:=Pm.wu h.nn 0;rw [e2,_d (by show 0<v.getD 0 0;omega),jE]
   rw [zi (no5 (by decide) _),zi (no7 (by decide) _),show zcX v .tu=Dd.D.int ((0:Nat):Int) from rfl,zi (row10 none 0),zi (no11 _ _ _ (by decide))];rfl
 exact key _ _ (LD.of h.toLot) (RD.of r)
end
end Po
namespace Pr
open L2 Dd Pm Pg Pn Po
section
variable {n:Nat}{v:List Int}(r:Rl)(h:Lot n v)(he:ended v=false)
include h he
end
end Pr
namespace Pn
open L2 Dd Pm Pg
theorem xx:LeM wb zK:=LeM.mof (LeS.if_ LeS.fNo LeS.rfl)
theorem z8m:LeM zB zp:=LeM.mof (LeS.seq (LeS.drop (LeE.call xx)) (LeS.drop (LeE.call z6V)))
theorem z7S{M:Mir}{f:FE}{Z:Ev}{s:Sto}{x:D}{c:Str}(h:f Z s=.ok x s)(hx:M [x] s=.ex c s):ze M (za f zh) Z s=.ex c s:=by rw [xu h,hx]
theorem zcn{M:Mir}{f g:FE}{Z:Ev}{s:Sto}{x y:D}{c:Str}(h:f Z s=.ok x s)(h2:g Z s=.ok y s)(hx:M [x,y] s=.ex c s):ze M (za f (za g zh)) Z s=.ex c s:=by rw [call2 h h2,hx]
section
variable {d y:D}{s:Sto}
theorem uv (h:yD [d] s=.ok (.bl false) s):zK [d] s=.ex "NoRule" s:=by
 have st:zq ["thing"] [d]=[some d]:=rfl;simp only [zK,z1h,z06,st,_i,_l,_A,jS,z1a,z12,vq,xu (x:=d) (vr (Z:=[some d]) (i:=0) (s:=s) rfl),h,Rb];rfl
theorem z9g (h:yD [d] s=.ok (.bl false) s):zp [d,y] s=.ex "NoRule" s:=by
 have st:zq ["rule","lot"] [d,y]=[some d,some y]:=rfl;simp only [zp,z1h,xy,st,_i,_l,_A];rw [z3n (c:="NoRule") (s':=s) (by rw [xg];exact z21 (z7S (x:=d) (vr rfl) (uv h)))]
theorem z4E {r:Rl} (h:zS [y] s=.ok (.bl false) s):zp [.str (nmR r),y] s=.ex "NoLot" s:=by
 have k:=xx.ok (wa r s);have key:∀ d:D,zK [d] s=.ok .non s->zp [d,y] s=.ex "NoLot" s:=fun d k=>by
  have st:zq ["rule","lot"] [d,y]=[some d,some y]:=rfl;simp only [zp,z1h,xy,st,_i,_l,_A];rw [zi (Z':=[some d,some y]) (s':=s) (by rw [xg,wI,xu (x:=d) (vr rfl),k];rfl),wF,z21 (z7S (x:=y) (vr rfl) (z4x h))]
 exact key _ k
end
end Pn
namespace Po
open L2 Dd Pm Pg Pn
theorem zc9 {n:Nat} {v:List Int} (h:Lot n v) (s:Sto):yJ [rD v] s=.ok (.bl (ended v)) s:=by
 have l4:=h.le4;have key:∀ d:D,d=rD v->yJ [d] s=.ok (.bl (ended v)) s:=fun d hd=>by
  have st:zq ["_law_lot_here"] [d]=[some d]:=rfl;have c:=vk (s:=s) (Z:=[some d]) (fi:=wU (zc 0)) (mp:=[none]) (fg:=vw 0) (ft:=tOf (eOp dGt (zc 0) (eC (.int 0)))) (fe:=zc 0) D.int D.int (fun x=>decide (0<x)) (fun x=>[some (.int x)]) v (z8a (by rw [show D.tup (v.map D.int)=d from hd.symm];exact vr rfl)) (fun x _=>by simp) (fun x _=>by simp) (fun x _ _=>by simp) (by simp [cap];omega);have e:v.filter (fun x=>decide (0<x))=nz v:=by
   refine List.filter_congr fun x hx=>?_;have:=h.nn x hx;by_cases q:x=0;·simp [q]
   ·have:0<x:=by omega
    simp [q,this]
  rw [e] at c;have lb:decide (((nz v).length:Int)=1)=ended v:=by
   unfold ended;by_cases e:(nz v).length=1;·simp [e]
   ·have:¬ ((nz v).length:Int)=1:=by omega
    simp [e,this]
  simp only [yJ,Mof,z05,st,_i,_l,_A,jU,yI,yk,xu c,xi,zO,Rb,kz,z8I,_J,lb]
 exact key _ rfl
def rls:List Rl:=[.al,.le,.nx,.tu]
theorem z7r(s:Sto):yx [] s=.ok (.lst (rls.map fun r=>D.str (nmR r))) s:=by
 have c4:(4:Nat)<=cap:=by decide
 have st:zq [] []=[]:=rfl;simp only [yx,Mof,kC,st,_l,_A,jN,yI,z0O,zo,zG,kz,Rb,_i,_ay,Nat.reduceAdd,_d c4];rfl
open PySem.Builtin.Str
def noR(r:Rl):List D:=[.str (Txt.upper (nmR r)),.str (nmR r++" "),.str (Txt.slice (nmR r) (some 1) none),.str (nmR r++"s"),.str "",.non,.int 3,.tup [.str (nmR r)],.lst [.str (nmR r)],.bl true,.dct]
theorem zgl{r:Rl}{d:D}(h:d∈noR r)(s:Sto):yD [d] s=.ok (.bl false) s:=by
 simp only [noR,_r,_ax,_cm] at h;cases r<;>rcases h with rfl | rfl | rfl | rfl | rfl | rfl | rfl | rfl | rfl | rfl | rfl<;>kernel_rfl
theorem z9U {s:Sto} {l:Nat} (r:Rl) (h:Pot s l):∃ d s',xS [.loc l,.str (nmR r)] s=.ok d s'/\d∈noR r/\vS s s' l:=by
 have st:zq ["_law_pot_here","_law_rule","_law_some"] [.loc l,.str (nmR r)]=[some (.loc l),some (.str (nmR r)),none]:=rfl;have q1:qE [some (.loc l),some (.str (nmR r)),none] s=.ok (.nx [some (.loc l),some (.str (nmR r)),some (.lst (noR r))]) s:=by cases r<;>kernel_rfl
 obtain ⟨x,s',e,a,b,dr⟩:=wP (f:=zc 0) (g:=eC (.int 11)) (far:=11) (Z:=[some (.loc l),some (.str (nmR r)),some (.lst (noR r))]) h (by decide) (jh (by decide)) (by simp) (by simp);have hr:x.toNat<(noR r).length:=by simp [noR];omega
 have ix:=va (xs:=noR r) (d:=(noR r)[x.toNat]) (s:=s') a (by simp [hr]);refine ⟨(noR r)[x.toNat],s',?_,_V hr,dr⟩;simp only [xS,Mof,qQ,st,_i,_l,_A];rw [zi q1,qJ,yI,yk];simp only [yg,_h,_e,Rb];rw [e,Rb,ix,Rb]
theorem zde {s:Sto} {l:Nat} {f:FE} {Z:Ev} (h:Pot s l) (hf:f Z s=.ok (.loc l) s):∃ r s',eOp dIx (ze yx zh) (ze zm (za f (za (eC (.int 4)) zh))) Z s=.ok (.str (nmR r)) s'/\vS s s' l:=by
 obtain ⟨x,s',e,a,b,dr⟩:=wP (f:=f) (g:=eC (.int 4)) (far:=4) (Z:=Z) h (by decide) (jh (by decide)) hf (by simp);have hr:x.toNat<rls.length:=by simp [rls];omega
 refine ⟨rls[x.toNat],s',?_,dr⟩;have ix:=va (xs:=rls.map fun r=>D.str (nmR r)) (d:=.str (nmR rls[x.toNat])) (s:=s') a (by simp [hr]);rw [yk,yf,zG,Rb,z7r,Rb,e,Rb,ix]
end Po
namespace Po
open L2 Dd Pm Pg Pn
theorem z7j{α:Type}{G:List (Nat×List D)}{all:List D}{body:D->Sto->R (Option D)}{s:Sto}(og:okG G all s)(g f:α->D):∀ (l:List α)(acc:List D),(∀ x∈l,body (g x) s=.ok (some (f x)) s)->acc.length+l.length<=cap->wq G all body (l.map g) acc s=.ok (acc++l.map f) s
 | [],acc,_,_=>by simp [wq,og] | x::xs,acc,hb,hl=>by
  have ih:=z7j (all:=all) og g f xs (acc++[f x]) (fun y hy=>hb y (by simp [hy])) (by simp at hl ⊢;omega);have hc:acc.length<cap:=by simp at hl;omega
  rw [_w,wq,_d og,hb x (by simp),Rb];simp only [_d hc,ih];simp
theorem z9S{α:Type}{G:List (Nat×List D)}{fi:FI}{mp:List (Option Nat)}{fg:FG}{fe:FE}{Z:Ev}{s:Sto}(g f:α->D)(ev:α->Ev)(l:List α) (hi:fi Z s=.ok (l.map g,G) s)(og:okG G (l.map g) s)(hg:∀ a∈l,fg (g a) (xl mp Z) s=.ok (ev a) s)(he:∀ a∈l,fe (ev a) s=.ok (f a) s)(hl:l.length<=cap): zT fi mp fg wS fe Z s=.ok (.lst (l.map f)) s:=by
 rw [jF,jp,hi,Rb];rw [z7j og g f l [] (by
  intro a ha;simp only [hg a ha,Rb];show (R.ok true s).bind _=_;simp [he a ha]) (by simpa using hl)];rfl
theorem z3t:∀ ps:List (D×D),z1s (ps.map Prod.fst) (ps.map Prod.snd)=ps.map fun p=>D.tup [p.1,p.2]
 | []=>rfl | p::ps=>by rw [_w,_w,z1s,z3t ps];rfl
section
variable {n m:Nat}{r:Rl}{v:List Int}{ls:List (List Int)}
abbrev RV(d e:D)(L:Nat)(a4 a5:Option D):Ev:=[some d,some e,some (.loc L),some (.loc (L+1)),a4,a5]
theorem zb5{s:Sto}{x y z:List D}:(s++[x,y]).set s.length z=s++[z,y]/\(s++[x,y]).set (s.length+1) z=s++[x,z]:=by
 constructor;·rw [_aw _ _ (by omega)];simp
 ·rw [_aw _ _ (by omega)];simp
theorem z0e{s:Sto}{x y:List D}:(s++[x,y])[s.length]? = some x/\(s++[x,y])[s.length+1]? = some y:=by
 constructor;·simp
 ·rw [_aJ (by omega)];simp
theorem zay {d e:D} (hd:d=.str (nmR r)) (hm:m<=1999) (s:Sto) {c:List Int} (Rn:Run r c ls):∀ (pre:List (List Int)) (pt:List Tb) (a4 a5:Option D),LotB n m c->pre.length+ls.length<=50000->pt.length+ls.length<=50000-> ∃ b4 b5,wB (z2c (tOf (ze yJ (za (eOp dIx (zc 2) (z9a (eC (.int 1)))) zh)))) (zy uf (zy vR ue)) (ls.length+1) (RV d e s.length a4 a5) (s++[(pre++[c]).map rD,pt.map tD])=.ok (.nx (RV d e s.length b4 b5)) (s++[(pre++ls).map rD,(pt++zU r ls).map tD]):=by
 have tst:∀ (pre:List (List Int)) (pt:List Tb) (c:List Int) (a4 a5:Option D),LotB n m c->eOp dIx (zc 2) (z9a (eC (.int 1))) (RV d e s.length a4 a5) (s++[(pre++[c]).map rD,pt.map tD])=.ok (rD c) (s++[(pre++[c]).map rD,pt.map tD])/\z2c (tOf (ze yJ (za (eOp dIx (zc 2) (z9a (eC (.int 1)))) zh))) (RV d e s.length a4 a5) (s++[(pre++[c]).map rD,pt.map tD])=.ok (!ended c) (s++[(pre++[c]).map rD,pt.map tD]):=fun pre pt c a4 a5 h=>by
  have ix:=z79 (x:=.loc s.length) (d:=rD c) (xs:=pre.map rD) (s:=s++[(pre++[c]).map rD,pt.map tD]) (by rw [zO,z0e.1];simp);have hE:=zc9 h.toLot (s++[(pre++[c]).map rD,pt.map tD]);generalize (s++[(pre++[c]).map rD,pt.map tD])=S at *;have e1:eOp dIx (zc 2) (z9a (eC (.int 1))) (RV d e s.length a4 a5) S=.ok (rD c) S:=by rw [op2 (x:=.loc s.length) (y:=.int (-1)) (vr rfl) (by simp),ix]
  refine ⟨e1,?_⟩;rw [z12,z4g (b:=ended c) (by rw [xu e1,hE]),Rb]
 induction Rn with
 | @done v hend=>
  intro pre pt a4 a5 h hl hl2;refine ⟨a4,a5,?_⟩;rw [wB,(tst pre pt v a4 a5 h).2,hend];simp [zU] | @step v ls hend Rn ih=>
  intro pre pt a4 a5 h hl hl2;obtain ⟨b4,b5,ih⟩:=ih (pre++[v]) (pt++[z74 r v]) (some (rD (stp r v))) (some (tD (z74 r v))) (h.step r hend) (by simp at hl ⊢;omega) (by simp at hl2 ⊢;omega);refine ⟨b4,b5,?_⟩;rw [_i,wB,(tst pre pt v a4 a5 h).2,hend,Rb,_d (by rfl)];have ls':=zdR r h hend hm (s++[(pre++[v]).map rD,pt.map tD]);rw [<- hd] at ls';have f4:uf (RV d e s.length a4 a5) (s++[(pre++[v]).map rD,pt.map tD])=.ok (.nx (RV d e s.length (some (rD (stp r v))) (some (tD (z74 r v))))) (s++[(pre++[v]).map rD,pt.map tD]):=by
   have e1:=(tst pre pt v a4 a5 h).1;generalize (s++[(pre++[v]).map rD,pt.map tD])=S at *;rw [uf,z8b,call2 (x:=d) (y:=rD v) (vr rfl) e1,ls',Rb];rfl
  have f5:vR (RV d e s.length (some (rD (stp r v))) (some (tD (z74 r v)))) (s++[(pre++[v]).map rD,pt.map tD])=.ok (.nx (RV d e s.length (some (rD (stp r v))) (some (tD (z74 r v))))) (s++[(pre++[v]++[stp r v]).map rD,pt.map tD]):=by
   have fl:(rD (stp r v)).flat=true:=yh _;have ln:((pre++[v]).map rD).length<cap:=by simp [cap] at hl ⊢;omega
   rw [vR,wI,z3C];simp only [yg,_e,_h,Rb,z0e.1,_d (show (rD (stp r v)).flat=true/\((pre++[v]).map rD).length<cap from ⟨fl,ln⟩),zb5.1];simp
  have f6:ue (RV d e s.length (some (rD (stp r v))) (some (tD (z74 r v)))) (s++[(pre++[v]++[stp r v]).map rD,pt.map tD])=.ok (.nx (RV d e s.length (some (rD (stp r v))) (some (tD (z74 r v))))) (s++[(pre++[v]++[stp r v]).map rD,(pt++[z74 r v]).map tD]):=by
   have fl:(tD (z74 r v)).flat=true:=zgY _;have ln:(pt.map tD).length<cap:=by simp [cap] at hl2 ⊢;omega
   rw [ue,wI,z3C];simp only [yg,_e,_h,Rb,z0e.2,_d (show (tD (z74 r v)).flat=true/\(pt.map tD).length<cap from ⟨fl,ln⟩),zb5.2];simp
  rw [zi f4,zi f5,f6,Rb];simp only;rw [ih,Rn.tabs_cons];simp
theorem zba(r:Rl)(h:LotB n m v)(Rn:Run r v ls)(hm:m<=1999)(hl:ls.length<=50000)(s:Sto):zL [.str (nmR r),rD v] s=.ok (.tup [.loc s.length,.loc (s.length+1)]) (s++[ls.map rD,(zU r ls).map tD]):=by
 have fl:(rD v).flat=true:=yh _;have key:∀ d e:D,d=.str (nmR r)->e=rD v->zL [d,e] s=.ok (.tup [.loc s.length,.loc (s.length+1)]) (s++[ls.map rD,(zU r ls).map tD]):=fun d e hd he=>by
  have st:zq ["_law_rule","_law_lot_here","_law_lots","_law_tables","_law_later","_law_table"] [d,e]=[some d,some e,none,none,none,none]:=rfl;have fe:e.flat=true:=by rw [he];exact fl
  have f1:qO [some d,some e,none,none,none,none] s=.ok (.nx [some d,some e,some (.loc s.length),none,none,none]) (s++[[e]]):=by
   simp only [qO,zW,z3z,zo,zG,yg,_h,_e,Rb];rw [_d ⟨by simp [cap],by simp [D.flat.flats,fe]⟩];rfl
  have f2:qY [some d,some e,some (.loc s.length),none,none,none] (s++[[e]])=.ok (.nx (RV d e s.length none none)) (s++[[e],[]]):=by
   simp only [qY,zW,z3z,zG,Rb];rw [_d ⟨by simp [cap],by simp [D.flat.flats]⟩];simp [RV]
  obtain ⟨b4,b5,lp⟩:=zay (e:=e) hd hm s Rn [] [] none none h (by simpa using hl) (by simpa using hl);rw [_ao,_ao,_ao,show ([v]:List (List Int)).map rD=[e] from by rw [he];rfl,List.map_nil] at lp;have f3:jr (RV d e s.length none none) (s++[[e],[]])=.ok (.nx (RV d e s.length b4 b5)) (s++[ls.map rD,(zU r ls).map tD]):=by rw [jr];exact z4y lp (by simp)
  simp only [zL,Mof,z2g,st,_i,_l,_A];rw [zi f1,zi f2,zi f3,z10,yI,uC];simp [RV,cap]
 exact key _ _ rfl rfl
end
end Po
namespace Pr
open L2 Dd Pm Pg Pn Po
section
variable {n m:Nat}{v:List Int}{d e:D}{r:Rl}(h:LotB n m v)(E:RD e r)(D:LD d v){b:Nat}{g:List Nat}(hb:b<v.length)(hg:b∉g)(hp:g=[]\/0<v.getD b 0)(hm:m<=1999)
include h D hb hg hp
include hm E
end
section
variable {n m:Nat}{v:List Int}(r:Rl)(h:LotB n m v)(he:ended v=false)(hm:m<=1999)
include h he hm
end
open PySem.W
end Pr
namespace Dd
open L2 PySem.W Pm Pr
end Dd
namespace Pg
open L2 Dd
end Pg
namespace Dd
open L2
section
variable {M:Model}{A:Around}{E:Value->Shared->Prop}{s:Shared}
theorem z8C {base:Heap} {env:Env} {outer:List Env} {L e:Addr} {cls a0 fl:Value} {Q:Unit->Shared->Prop} (hfr:A.frames=some (env::outer)) (hf:env.frame=some L) (hkb:base.StaysIn s.heap) (hen:base.get? e=none) (hl:s.heap.FunFrames base (env::outer)) (ht:s.heap.TracedAtW base e cls a0 fl) (hQ:∀ h',Heap.FlyingW base outer e cls a0 h'->s.heap.UpToSlots h'->Q () {s with heap:=h'}):wpAny M A (leaving env (.ref e)) Q E s:=by
 by_cases q:fl=rawInt L
 ·subst q;unfold leaving;refine _a (wpAny_noteFrame_againW hf ht (wpAny_landsW (L:=L) ⟨hkb,hen,hl,ht⟩ fun h' hfl sm=>?_));obtain ⟨k1,k2,⟨_,_,k3⟩,k4⟩:=hfl;exact hQ h' ⟨k1,k2,k3,k4⟩ sm
 ·obtain ⟨oe,vs,T,oT,ts,he,⟨hcls,h0⟩,hd,h1,hnT,hTe,hT,hdT,h3⟩:=ht;subst hcls;unfold leaving noteFrame;simp only [hf];refine _a (_a (_C he hd h1 ?_));rw [_d (by simp)];refine _a (_C hT hdT h3 ?_);rw [_o (by simpa using q)];refine _a (_ch hT hdT (_bf.mp h3).1 ?_);have oth:∀ b,b≠T->(s.heap.update T (Obj.mapFields (·.setIfInBounds 3 Value.none))).get? b=s.heap.get? b:=fun b hb=>_a2 _ _ (_aE hb);have nor:∀ b o,s.heap.get? b=some o->(∀ vs,o.data≠.fields vs)->b≠T:=fun b o hb hnf q=>by
   rw [q,hT] at hb;cases hb;exact hnf ts hdT
  refine wpAny_entryW hfr (hl.of_keeps fun b o hb hnf=>⟨o,by rw [oth b (nor b o hb hnf)];exact hb,rfl⟩) hf (by rw [oth e (_aE hTe)];exact he) (fun b o hbo=>by rw [oth b fun q=>by rw [q,hnT] at hbo;cases hbo];exact hkb b o hbo) hen hd (_bf.mp h1).1 h0 fun h' ⟨x1,x2,x3,x4⟩=>?_;refine wpAny_landsW (L:=L) ⟨x1,hen,x2,x3⟩ fun h2 hfl sm=>?_;obtain ⟨k1,k2,⟨_,_,k3⟩,k4⟩:=hfl;refine hQ h2 ⟨k1,k2,k3,k4⟩ fun b o hb hnf=>?_;obtain ⟨sl,e1⟩:=x4 b o (by rw [oth b (nor b o hb hnf)];exact hb) hnf;obtain ⟨sl2,e2⟩:=sm b _ e1 hnf;exact ⟨sl2,e2⟩
theorem z4h {base:Heap} {l:List Env} {e:Addr} {cls a0 fl:Value} {fr:Option Addr} {Q:Unit->Shared->Prop} (hkb:base.StaysIn s.heap) (hl:s.heap.FunFrames base l) (ht:s.heap.TracedAtW base e cls a0 fl) (hQ:∀ h' fl',base.StaysIn h'->h'.FunFrames base l->h'.TracedAtW base e cls a0 fl'->s.heap.UpToSlots h'->Q () {s with heap:=h'}):wpAny M A (setFlight (.ref e) fr) Q E s:=by
 obtain ⟨oe,vs,T,oT,ts,he,hcls,hd,h1,hnT,hTe,hT,hdT,h3⟩:=ht;have hsz3:3<ts.size:=(_bf.mp h3).1;have oth:∀ (g:Array Value->Array Value) b,b≠T->(s.heap.update T (Obj.mapFields g)).get? b=s.heap.get? b:=fun g b hb=>_a2 _ _ (_aE hb);have nor:∀ b o,s.heap.get? b=some o->(∀ vs,o.data≠.fields vs)->b≠T:=fun b o hb hnf q=>by
  rw [q,hT] at hb;cases hb;exact hnf ts hdT
 unfold setFlight;refine _a (_C he hd h1 ?_);rw [_d (by simp)];refine _ch hT hdT hsz3 (hQ _ (fr.elim Value.none fun f=>rawInt f) (fun b o hbo=>by rw [oth _ b fun q=>by rw [q,hnT] at hbo;cases hbo];exact hkb b o hbo) (hl.of_keeps fun b o hb hnf=>⟨o,by rw [oth _ b (nor b o hb hnf)];exact hb,rfl⟩) ?_ fun b o hb hnf=>⟨o.slots,by rw [oth _ b (nor b o hb hnf)];exact hb⟩);exact ⟨oe,vs,T,_,_,by rw [oth _ e (_aE hTe)];exact he,hcls,hd,h1,hnT,hTe,_bI _ hT (Obj.isFreed_of_fields (_bu hdT _)),_bu hdT _,by simp [hsz3]⟩
end
section
variable {P:Program}{w:World}{K:W.Frag}{mg:Str->Option Value}{base:Heap}{N:List Str}{qual:Str}{scope:Scope}{f:Addr}{cd:Value}{A:Around}{outer:List Env}{s:Shared}{H:Hp}{E:XK}
def ThruX (X:Cx) (E:XK):Prop:=∀ (pins:List (Addr×Obj)) (O:L2.St) (H1:Hp) (s1:Shared) (h2 B:Heap) (C ea Cl:Addr) (a0 fl:Value),Inv X pins O H1 s1->E (.ref C) none H1-> H1 Cl=none->Cl≠X.env.locals->Cl∉frs X.outer->X.s₀.heap.get? Cl=none-> B.StaysIn h2->B.get? ea=none->h2.FunFrames B X.stack->h2.TracedAtW B ea (.ref C) a0 fl-> (∀ b o,b≠Cl->s1.heap.get? b=some o->(∀ vs,o.data≠.fields vs)->∃ sl,h2.get? b=some {o with slots:=sl})-> (∀ b o,b≠Cl->s1.heap.get? b=some o->(H1 b≠none\/((∃ o',X.s₀.heap.get? b=some o')/\b∉frs X.stack))->B.get? b=some o)->X.xe (.ref ea) {s1 with heap:=h2}
theorem zdY:ThruX (z0F (CX1 P w) P w K mg base N qual scope f cd A outer s H E) E:=by
 intro pins O H1 s1 h2 B C ea Cl a0 fl I hE hc0 hc1 hc2 hc3 hkb hen hl ht sm cov;refine z8C (base:=B) (outer:=outer) I.ok.frames wd hkb hen hl ht fun h' fw sm2=>?_;have k:=fw.1;have sml:∀ b o,b≠Cl->s1.heap.get? b=some o->(∀ vs,o.data≠.fields vs)->∃ sl,h'.get? b=some {o with slots:=sl}:=fun b o hb e hnf=>by
  obtain ⟨sl,e1⟩:=sm b o hb e hnf;obtain ⟨sl2,e2⟩:=sm2 b _ e1 hnf;exact ⟨sl2,e2⟩
 have old:∀ b o',s.heap.get? b=some o'->b≠Cl:=fun b o' e z=>by
  rw [z,show s.heap.get? Cl=none from hc3] at e;cases e
 have c:∀ b o,s1.heap.get? b=some o->(H1 b≠none\/((∃ o',s.heap.get? b=some o')/\b∉frs outer))->B.get? b=some o:=fun b o e q=>by
  refine cov b o (fun z=>?_) e (q.imp id fun ⟨⟨o',e'⟩,nf⟩=>⟨⟨o',e'⟩,fun z=>?_⟩)
  ·subst z;rcases q with q | ⟨⟨o',e'⟩,_⟩;·exact q hc0
   ·exact old b o' e' rfl
  ·rw [show (z0F (CX1 P w) P w K mg base N qual scope f cd A outer s H E).stack=envOfC qual scope s.heap.objs.size f cd::outer from rfl,kZ wd] at z;rcases _r.mp z with z | z
   ·have:=_m e';rw [z] at this;exact absurd this (_af _)
   ·exact nf z
 have hex:∀ b:Addr,b∉(z0F (CX1 P w) P w K mg base N qual scope f cd A outer s H E).ex:=fun b=>by show b∉([]:List Addr);simp
 refine ⟨C,ea,H1,rfl,⟨I.os,I.bare,⟨fun b o e n nf ne=>?_,fun b o e n hf ne=>?_,fun b o e n ne=>?_,fun b o e ne=>?_,I.base.tups,I.base.frzs,I.base.tbls⟩,HOk.cov I.hok (fun b o e n=>c b o e (.inl n)) k,B,a0,fw,fun b o e q=>?_⟩,hE⟩
 ·have e1:=I.base.keep b o e n nf (hex b);exact k b o (c b o e1 (.inr ⟨⟨o,e⟩,nf⟩))
 ·obtain ⟨sl,e1⟩:=I.base.slot b o e n hf (hex b);obtain ⟨_,o2,e2,hnf⟩:=I.funs.mem hf;rw [e1] at e2;cases e2;obtain ⟨sl2,e3⟩:=sml b _ (old b o e) e1 hnf;exact ⟨sl2,e3⟩
 ·exact I.base.free b o e n (hex b)
 ·by_cases hf:b∈frs outer
  ·obtain ⟨_,o2,e2,hnf⟩:=I.funs.mem hf;obtain ⟨sl2,e3⟩:=sml b _ (old b o e) e2 hnf;exact ⟨_,e3⟩
  ·obtain ⟨o1,e1⟩:=I.base.there b o e (hex b);exact ⟨o1,k b o1 (c b o1 e1 (.inr ⟨⟨o,e⟩,hf⟩))⟩
 ·have back:∀ o1,s1.heap.get? b=some o1->B.get? b=some o:=fun o1 e1=>by
   have e2:=c b o1 e1 q;have e3:h'.get? b=some o1:=k b o1 e2;have:h'.get? b=some o:=e;rw [e3] at this;cases this;exact e2
  rcases q with q | ⟨⟨o',e'⟩,nf⟩;·cases z:H1 b with
   | none=>exact absurd z q | some u=>
    obtain ⟨o1,e1⟩:=z7K (I.hok b u z);exact back o1 e1
  ·obtain ⟨o1,e1⟩:=I.base.there b o' e' (hex b);exact back o1 e1
end
end Dd
namespace L2
open LCg
def xeC(X:Cx)(E:XK)(N':List Str)(scope:Scope)(ex:List Addr)(s:Shared)(H:Hp):Value->Shared->Prop:=fun e s'=>∃ pins O H1 s1,Inv (zw X N' scope ex s H) pins O H1 s1/\Dd.CX1 X.prog X.w X.stack H1 s1 E e s'
theorem zj4{X:Cx}{E:XK}{N':List Str}{scope:Scope}{ex:List Addr}{s:Shared}{H:Hp}:Passes (Dd.CX1 X.prog X.w) ((zw X N' scope ex s H).wish (xeC X E N' scope ex s H)) E:=fun pins O H1 s1 e s' I h=>⟨pins,O,H1,s1,I.unwish,h⟩
theorem zdw{h h' base:Heap}{C:Addr}:∀ {l:List Env},h.FunFrames base l->C∉frs l->Heap.SameBut C h h'->h'.FunFrames base l
 | [],_,_,_=>trivial | _::_,⟨hk,⟨L,o,hf,hn,ho,hd⟩,hr⟩,hc,sb=>by
  rw [Dd.kZ hf] at hc;exact ⟨hk,⟨L,o,hf,hn,(sb.2 L fun z=>hc (by rw [z];exact .head _)).trans ho,hd⟩,zdw hr (fun z=>hc (.tail _ z)) sb⟩
section
variable {prog:Program}{w:World}{A:Around}{E:Value->Shared->Prop}{R:Result->Shared->Prop}{s:Shared}
theorem z4P{elt target iter:Expr}{ifs:List Expr}{scope:Scope}{pos:Pos}{it acc:Value}{env:Env}(I:Nat->Shared->Prop)(EX:Value->Shared->Prop)(hEX:∀ x s',EX x s'->notedBy (model prog w) A env (fun x s'=>R (.error x) s') x s') (turn:∀ n s,I n s->wpAny (model prog w) A (pyNext it) (fun r s₁=>match r with
   | none=>R (.ok .next) s₁ | some v=>wpAny (model prog w) A (letOwnedTupleGo target it v) (fun _ s₁'=>wpAny (model prog w) A (assign target env v) (fun _ s₂=> wpAny (model prog w) A (forIn ifs true fun c r=>if r=true then do let ok <- isTrue c env (eval c env);pure (ForInStep.yield ok) else pure (ForInStep.yield r)) (fun ok s₃=> if ok=true then wpAny (model prog w) A (eval elt env) (fun x s₄=> wpAny (model prog w) A (call (.builtin "list.append") [acc,x]) (fun _ s₅=>∃ m,m<n/\I m s₅) (fun _ _=>False) s₄) EX s₃ else ∃ m,m<n/\I m s₃) (fun _ _=>False) s₂) (fun _ _=>False) s₁') (fun _ _=>False) s₁) (fun _ _=>False) s) (n:Nat)(h:I n s): codeAny (model prog w) A (.compLoop (.ListComp elt [⟨target,iter,ifs,0⟩] scope pos) 0 it acc env) R s:=by
 refine codeAny_loop rfl I (fun n s hI=>?_) n h;show wpAny _ A ((compTurn (.ListComp elt [⟨target,iter,ifs,0⟩] scope pos) 0 it acc env).onRaise (fun x=>do noteFrame x env;theTreesLotGoes x)) _ _ s;refine wpAny_noted ?_;rw [compTurn_list];refine _a (_bn (_a (_x (turn n s hI) (fun r s₁ h₁=>?_) fun _ _ h'=>h'.elim)));cases r with
 | none=>exact _g h₁ | some v=>
  refine _a (_x h₁ (fun _ s₁' h₁'=>?_) fun _ _ h'=>h'.elim);refine _a (_x h₁' (fun _ s₂ h₂=>_a (_x h₂ (fun ok s₃ h₃=>?_) fun _ _ h'=>h'.elim)) fun _ _ h'=>h'.elim);cases ok with
  | false=>exact _g ⟨rfl,h₃⟩ | true=> exact _a (_a (_x h₃ (fun x s₄ h₄=>_a (_x h₄ (fun _ s₅ h₅=>_g (_g ⟨rfl,h₅⟩)) fun _ _ h'=>h'.elim)) fun x s' h'=>hEX x s' h'))
end
theorem z7g {X:Cx} {E0:XK} {tg iter elt:Expr} {ifs:List Expr} {scope:Scope} {pos:Pos} {g:TG} {ti:TT} {te:TE} {N':List Str} {mp:List (Option Nat)} {pins:List (Addr×Obj)} {O:St} {Q:VK} {J:It} {H2:Hp} {s₂:Shared} {it:Addr} {fp:List Addr} {tn:Nat->Heap->Prop} {E:Value->Shared->Prop} {RR:Value->Addr->Result->Shared->Prop} (hc:X.calm=true) (hg:∀ ex s H,PG (zw X N' scope ex s H) tg g) (ht:∀ ex s H,z4S (zw X N' scope ex s H) ifs ti) (he:∀ ex s H,PE ((zw X N' scope ex s H).wish (xeC X E0 N' scope ex s H)) elt te) (hkd:scope.kind=.function) (hnm:∀ y∈scope.names,scope.names.lookup y.1=some y.2) (hfr:∀ y∈scope.names,y.2=.free->X.env.kindOf y.1=some .cell\/X.env.kindOf y.1=some .free) (hmp:z1n X.N scope.names N' mp=true) (I2:Inv X pins O H2 s₂) (T:zbW X.prog X.w X.K tg J fp it tn) (st2:tn 0 s₂.heap) (f2:∀ b∈fp,z2z X pins H2 b) (W:Nat->Nat->List V->Hp->Prop) (w0:∃ m,W 0 m [] H2) (turn:∀ i m ys H,W i m ys H-> (J.stop i H/\ys.length<=sizeLine/\∀ p,H p=none->Q (.ref p) (upd H p (.lst ys)))\/ (J.go i H/\∀ x H',J.yld i H x H'->g x (inner mp O) H' fun O2 H2=>(O2.length=(inner mp O).length/\∀ (i:Nat) v,(inner mp O)[i]? = some (some v)->O2[i]? = some (some v))/\ ti O2 H2 fun b H3=>if b=true then te O2 H3 fun y H4=>ys.length<=sizeLine/\∃ m',m'<m/\W (i+1) m' (ys++[y]) H4 else ∃ m',m'<m/\W (i+1) m' ys H3)) (hst:X.stack=X.env::X.outer) (hef:X.env.frame=some X.env.locals) (hxe:X.ex=[]) (thr:Dd.ThruX X E0) (hRE:∀ acc C e s',(∃ m,s'.heap.Ns C m)->(∀ h',Heap.SameBut C s'.heap h'->∀ cenv:Env,cenv.locals=C->wpAny (model X.prog X.w) X.A (passOn "comprehension.variables-let-go" e cenv:Sem Value) (fun _ _=>False) X.xe {s' with heap:=h'})->RR acc C (.error e) s') (hRR:∀ acc C s',kI X pins O C Q acc s'->RR acc C (.ok .next) s'): wpAny (model X.prog X.w) X.A (newList []) (fun acc s₃=>wpAny (model X.prog X.w) X.A (newFunctionEnv scope X.env.globals (z4c X.env scope.names []) [] X.env.qual none .none (some X.env)) (fun cenv s₄=> codeAny (model X.prog X.w) X.A (.compStart (.ListComp elt [⟨tg,iter,ifs,0⟩] scope pos) 0 (.ref it) acc {cenv with scope:=relabel scope X.env}) (RR acc cenv.locals) s₄) E s₃) E s₂:=by
 refine _M ?_;have hf2:H2 s₂.heap.objs.size=none:=I2.hok.fresh (_j _);have fA:z2z X pins H2 s₂.heap.objs.size:=I2.fpOk (_j _) hf2;generalize hacc:s₂.heap.objs.size=acc at hf2 fA ⊢;have I3:Inv X pins O H2 {s₂ with heap:=s₂.heap.push {cls:=.type "list",data:=.seq ([]:List Value).toArray}}:=I2.kept (t':=s₂.toks) fun b o e=>_b _ e;have ha3:(s₂.heap.push {cls:=.type "list",data:=.seq ([]:List Value).toArray}).get? acc=some (LCg.lst []):=by rw [<- hacc];exact _n _ rfl
 have sz3:(s₂.heap.push {cls:=.type "list",data:=.seq ([]:List Value).toArray}).objs.size=acc+1:=by rw [_aa,hacc]
 have kp3:∀ b o,s₂.heap.get? b=some o->(s₂.heap.push {cls:=.type "list",data:=.seq ([]:List Value).toArray}).get? b=some o:=fun b o e=>_b _ e;show wpAny _ _ _ _ _ {s₂ with heap:=s₂.heap.push {cls:=.type "list",data:=.seq ([]:List Value).toArray}};generalize hs3:({s₂ with heap:=s₂.heap.push {cls:=.type "list",data:=.seq ([]:List Value).toArray}}:Shared)=s₃ at I3 ⊢;have ha3':s₃.heap.get? acc=some (LCg.lst []):=by rw [<- hs3];exact ha3
 have sz3':s₃.heap.objs.size=acc+1:=by rw [<- hs3];exact sz3
 have kp3':∀ b o,s₂.heap.get? b=some o->s₃.heap.get? b=some o:=by rw [<- hs3];exact kp3
 have flt:∀ b∈fp,b<acc:=fun b hb=>by
  obtain ⟨o,e,_⟩:=T.obj 0 _ st2 b hb;rw [<- hacc];exact _m e
 have fne:∀ b∈fp,b≠acc:=fun b hb=>_u (flt b hb);have tn3:tn 0 s₃.heap:=T.keep 0 _ _ st2 fun b hb o e=>kp3' b o e;refine z2x ?_;rw [wo];have hex:∀ b∈acc::fp,b<s₃.heap.objs.size/\H2 b=none/\b≠X.env.locals/\b∉X.fs/\(b∈X.ex\/X.s₀.heap.objs.size<=b)/\(∀ x c,X.env.cells.lookup x=some c->c≠b):=fun b hb=>by
  rcases _r.mp hb with z | hb
  ·subst z;exact ⟨by rw [sz3'];exact _a1 _,hf2,fA.2.1,fA.2.2.1,fA.2.2.2.1,fA.2.2.2.2.1⟩
  ·have q:=f2 b hb;exact ⟨by rw [sz3'];exact _ai (flt b hb),q.1,q.2.1,q.2.2.1,q.2.2.2.1,q.2.2.2.2.1⟩
 have I4:=z3A (N':=N') (mp:=mp) (ex:=acc::fp) (s1:={s₃ with heap:=pushCells (s₃.heap.push {cls:=.type "dict",data:=.dict #[]}) scope.names}) I3 hkd hnm hfr hmp hex rfl rfl rfl;have kp4:∀ b o,s₃.heap.get? b=some o->(pushCells (s₃.heap.push {cls:=.type "dict",data:=.dict #[]}) scope.names).get? b=some o:=fun b o e=>_bX _ _ b o (_b _ e);generalize hs4:({s₃ with heap:=pushCells (s₃.heap.push {cls:=.type "dict",data:=.dict #[]}) scope.names}:Shared)=s₄ at I4 ⊢;have ha4:s₄.heap.get? acc=some (LCg.lst []):=by rw [<- hs4];exact kp4 _ _ ha3'
 have tn4:tn 0 s₄.heap:=T.keep 0 _ _ tn3 fun b hb o e=>by rw [<- hs4];exact kp4 b o e
 have Cne:acc≠s₃.heap.objs.size:=by rw [sz3'];exact _u (_a1 _)
 have celln:∀ b∈acc::fp,∀ x c,(z4N X scope s₃.heap.objs.size).cells.lookup x=some c->c≠b:=fun b hb=>(I4.ok.exf b hb).2;have stat:∀ {H':Hp} {o:Obj},(∀ b∈fp,H' b=none)->∀ b∈fp,z2z (zw X N' scope (acc::fp) s₃ H2) [(acc,o)] H' b:=fun {H' o} hn b hb=> ⟨hn b hb,_u (by show b<s₃.heap.objs.size;rw [sz3'];exact _ai (flt b hb)),fun hf=>I4.ok.exfs b (_t _ hb) hf,.inl (_t _ hb),celln b (_t _ hb),fun p hp=>by
   have e:p=(acc,o):=by simpa [zw] using hp
   rw [e];exact _aE (fne b hb)⟩;have pinA:∀ {O':St} {H':Hp} {s':Shared} {its:List Value},Inv (zw X N' scope (acc::fp) s₃ H2) [] O' H' s'->H' acc=none->s'.heap.get? acc=some (LCg.lst its)->Inv (zw X N' scope (acc::fp) s₃ H2) [(acc,LCg.lst its)] O' H' s':=fun {O' H' s' its} J' n' e'=> J'.pins_of fun p hp=>by
   have e:p=(acc,LCg.lst its):=by simpa using hp
   subst e;refine ⟨e',n',Cne,fun hf=>I4.ok.exfs acc _F hf,fun v z=>?_⟩;have z':Data.seq _ _=Data.cell v:=z;cases z'
 have errC:∀ x s',xeC X E0 N' scope (acc::fp) s₃ H2 x s'->notedBy (model X.prog X.w) X.A (z4N X scope s₃.heap.objs.size) (fun x s'=>RR (.ref acc) s₃.heap.objs.size (.error x) s') x s':=by
  rintro x s' ⟨pins',O',H1,s1,I1,Cc,ea,H',rfl,fl,hE⟩;obtain ⟨h2,g2,d2,t2,os2⟩:=s';have eos:os2=s1.os:=fl.os;subst eos;have I':=I1.call (h':=h2) (g':=g2) (d':=d2) (t':=t2) (ch:=[]) fl.un fl.hok fl.bare (fun b z=>absurd z (by simp));have un:Un (frs X.stack) (acc::fp) H2 H' s₃.heap h2:=I'.base;have hch:∀ b∈acc::fp,(b∈X.ex\/X.s₀.heap.objs.size<=b)/\b≠X.env.locals/\(∀ x c,X.env.cells.lookup x=some c->c≠b)/\∀ p∈X.pn++pins,p.1≠b:=fun b hb=>by
   rcases _r.mp hb with z | hb;·subst z;exact ⟨fA.2.2.2.1,fA.2.1,fA.2.2.2.2.1,fA.2.2.2.2.2⟩
   ·exact ⟨(f2 b hb).2.2.2.1,(f2 b hb).2.1,(f2 b hb).2.2.2.2.1,(f2 b hb).2.2.2.2.2⟩
  have IX:Inv X pins O H' ⟨h2,g2,d2,t2,s1.os⟩:=I3.call' (s':=⟨h2,g2,d2,t2,s1.os⟩) I'.os un I'.hok I'.bare hch;have C7:z2z X pins H' s₃.heap.objs.size:=I3.fpOk (_j _) I'.free;obtain ⟨m,hm,_⟩:=I'.loc;have hm:h2.Ns s₃.heap.objs.size m:=hm;have c3:X.s₀.heap.objs.size<=s₃.heap.objs.size:=by
   rcases C7.2.2.2.1 with z | z;·rw [hxe] at z;cases z
   ·exact z
  have Cs0:X.s₀.heap.get? s₃.heap.objs.size=none:=by cases z:X.s₀.heap.get? s₃.heap.objs.size with
   | none=>rfl | some o=>exact absurd (_m z) (_ck.mpr c3)
  have Cfs:s₃.heap.objs.size∉frs X.stack:=by
   rw [hst,Dd.kZ hef];intro z;rcases _r.mp z with z | z;·exact C7.2.1 z
   ·exact C7.2.2.1 z
  have old1:∀ b o,X.s₀.heap.get? b=some o->∃ o',s1.heap.get? b=some o':=fun b o e=>by
   obtain ⟨o1,e1⟩:=I3.base.there b o e (by rw [hxe];simp);refine I1.base.there b o1 e1 fun z=>?_;have lt:=_m e;rcases (hch b z).1 with q | q;·rw [hxe] at q;cases q
   ·exact absurd lt (_ck.mpr q)
  obtain ⟨B,a0,fw,cov⟩:=fl.fly;have fw':=PySem.W.flyingW_base (base:=PySem.W.hideAll B [s₃.heap.objs.size]) (fun b o q=>PySem.W.of_hideAll _ q) fw;generalize hC:s₃.heap.objs.size=C at *;have ef:(z4N X scope C).frame=X.env.frame:=rfl;have en:noteFrame (.ref ea) (z4N X scope C)=noteFrame (.ref ea) X.env:=by
   unfold noteFrame PySem.frameOf;rw [ef]
  unfold notedBy;rw [en];have frm:=I3.ok.frames;rw [hst] at frm;rw [hst] at fw';refine wpAny_looks_onW frm hef fw' fun h3 held sm3=>?_;obtain ⟨k1,k2,k3,k4⟩:=held;have hm3:h3.Ns C m:=sm3.ns hm;refine hRE _ _ _ _ ⟨m,hm3⟩ fun h4 sb cenv _=>?_;obtain ⟨oC,esC,epC,gC,dC,_⟩:=id hm3;have nofl:∀ b o vs,h3.get? b=some o->o.data=.fields vs->b≠C:=fun b o vs e d z=>by
   rw [z,gC] at e;cases e;rw [dC] at d;cases d
  have bC:∀ b o,(PySem.W.hideAll B [C]).get? b=some o->b≠C:=fun b o e z=>by
   rw [z,PySem.W.hideAll_none _ (by simp)] at e;cases e
  have k1':(PySem.W.hideAll B [C]).StaysIn h4:=fun b o e=>(sb.2 b (bC b o e)).trans (k1 b o e);have k3':h4.FunFrames (PySem.W.hideAll B [C]) (X.env::X.outer):=zdw k3 (by rw [<- hst];exact Cfs) sb;obtain ⟨oe,vs,T,oT,ts,he',hcls,hd',h1',hnT,hTe,hT,hdT,h3'⟩:=k4;have k4':h4.TracedAtW (PySem.W.hideAll B [C]) ea (.ref Cc) a0 (rawInt X.env.locals):=⟨oe,vs,T,oT,ts,(sb.2 ea (nofl ea oe vs he' hd')).trans he',hcls,hd',h1',hnT,hTe,(sb.2 T (nofl T oT ts hT hdT)).trans hT,hdT,h3'⟩;unfold PySem.passOn;refine _a (_C ((sb.2 ea (nofl ea oe vs he' hd')).trans he') hd' h1' ?_);rw [_o (by simp)];refine _a (Dd.z4h k1' k3' k4' fun h5 fl5 y1 y2 y3 y4=>wpAny_throw ?_);exact thr pins O H' ⟨h2,g2,d2,t2,s1.os⟩ h5 (PySem.W.hideAll B [C]) Cc ea C a0 fl5 IX hE C7.1 C7.2.1 C7.2.2.1 Cs0 y1 k2 (by rw [hst];exact y2) y3 (fun b o hb e hnf=>by
   obtain ⟨sl,e1⟩:=sm3 b o e hnf;obtain ⟨sl2,e2⟩:=y4 b _ ((sb.2 b hb).trans e1) hnf;exact ⟨sl2,e2⟩) fun b o hb e q=>PySem.W.hideAll_get _ (cov b o e (q.imp id fun ⟨⟨o',e'⟩,nf⟩=>⟨old1 b o' e',nf⟩)) (by simpa using hb)
 obtain ⟨m0,w0⟩:=w0;have loop:codeAny (model X.prog X.w) X.A (.compLoop (.ListComp elt [⟨tg,iter,ifs,0⟩] scope pos) 0 (.ref it) (.ref acc) (z4N X scope s₃.heap.objs.size)) (RR (.ref acc) s₃.heap.objs.size) s₄:=by
  refine z4P (EX:=xeC X E0 N' scope (acc::fp) s₃ H2) (hEX:=errC) (I:=fun n s'=>∃ i ys its H',Inv (zw X N' scope (acc::fp) s₃ H2) [] (inner mp O) H' s'/\tn i s'.heap/\(∀ b∈fp,H' b=none)/\H' acc=none/\s'.heap.get? acc=some (LCg.lst its)/\yA ys its/\W i n ys H') ?_ m0 ⟨0,[],[],H2,I4,tn4,fun b hb=>(f2 b hb).1,hf2,ha4,.nil,w0⟩;rintro n s5 ⟨i,ys,its,H5,I5,tn5,n5,na5,ea5,rv5,w5⟩;have I5':=pinA I5 na5 ea5;rcases turn i n ys H5 w5 with ⟨stop,hz,q⟩ | ⟨go,step⟩
  ·refine _x (T.done (zw X N' scope (acc::fp) s₃ H2) rfl rfl rfl hc i _ s5 _ H5 (fun _ _=>False) I5' (stat n5) tn5 stop) (fun r s6 ⟨hr,I6⟩=>?_) fun _ _ z=>z;subst hr;have ea6:=(I6.pin (acc,LCg.lst its) (by simp)).1;have un:Un (frs X.stack) (acc::fp) H2 H5 s₃.heap s6.heap:=I6.base;have I7:Inv X pins O H5 s6:=I3.call' (s':=s6) (I6.os) un I6.hok I6.bare fun b hb=>by
    rcases _r.mp hb with z | hb;·subst z;exact ⟨fA.2.2.2.1,fA.2.1,fA.2.2.2.2.1,fA.2.2.2.2.2⟩
    ·exact ⟨(f2 b hb).2.2.2.1,(f2 b hb).2.1,(f2 b hb).2.2.2.2.1,(f2 b hb).2.2.2.2.2⟩
   have C7:z2z X pins H5 s₃.heap.objs.size:=I3.fpOk (_j _) I6.free;refine hRR _ _ s6 ⟨.ref acc,upd H5 acc (.lst ys),I7.track ⟨na5,fA.2⟩ ?_,rfl,q acc na5,?_,?_,C7.2⟩;·exact ⟨hz,its,_,rv5,ea6⟩
   ·obtain ⟨m,hm,_⟩:=I6.loc;exact ⟨m,hm⟩
   ·rw [zE (_aE Cne)];exact I6.free
  ·refine _x (T.item (zw X N' scope (acc::fp) s₃ H2) rfl rfl rfl hc i _ s5 _ H5 (fun _ _=>False) I5' (stat n5) tn5 go) (fun r s6 ⟨u,hr,h6⟩=>?_) fun _ _ z=>z;subst hr;refine _x h6 (fun _ s7 ⟨x,H7,I7,r7,y7,tn7,n7⟩=>?_) fun _ _ z=>z;have I7':=I7.pinned (stat n7) (T.obj _ _ tn7);refine _x (hg _ _ _ _ s7 (inner mp O) H7 x u _ I7' r7 (step x H7 y7)) (fun _ s8 ⟨O8,H8,I8,⟨kl,kv⟩,q8⟩=>?_) fun _ _ z=>z;refine _x (ht _ _ _ _ s8 O8 H8 _ I8 q8) (fun b s9 ⟨H9,I9,q9⟩=>?_) fun _ _ z=>z;have pinB:∀ {O':St} {H':Hp} {s':Shared},Inv (zw X N' scope (acc::fp) s₃ H2) ([(acc,LCg.lst its)]++z3v fp s7.heap) O' H' s'->(∀ b∈fp,H' b=none)/\H' acc=none/\s'.heap.get? acc=some (LCg.lst its)/\tn (i+1) s'.heap/\∀ b∈fp,∀ o,s7.heap.get? b=some o->s'.heap.get? b=some o:=fun {O' H' s'} J'=>by
    have z:=J'.pin (acc,LCg.lst its) (by simp [zw]);have zz:∀ b∈fp,∀ o,s7.heap.get? b=some o->s'.heap.get? b=some o/\H' b=none:=fun b hb o e=>by
     have y:=J'.pin (b,o) (_z _ (_z _ (vA hb e)));exact ⟨y.1,y.2.1⟩
    refine ⟨fun b hb=>?_,z.2.1,z.1,T.keep _ _ _ tn7 fun b hb o e=>(zz b hb o e).1,fun b hb o e=>(zz b hb o e).1⟩;obtain ⟨o,e,_⟩:=T.obj _ _ tn7 b hb;exact (zz b hb o e).2
   cases b with
   | false=>
    rw [_o (by decide)] at q9 ⊢;obtain ⟨m',lt,w9⟩:=q9;obtain ⟨z1,z2,z3,z4,_⟩:=pinB I9;exact ⟨m',lt,i+1,ys,its,H9,(I9.pins_of (pins':=[]) (fun p hp=>absurd hp (by simp))).weak kl.symm kv,z4,z1,z2,z3,rv5,w9⟩ | true=>
    rw [_d rfl] at q9 ⊢;refine _x (he _ _ _ _ s9 O8 H9 _ (I9.wish _) q9) (fun yv s10 ⟨y,H10,I10,r10,hz,m',lt,w10⟩=>?_) fun _ _ z=>z;have I10:=I10.unwish;obtain ⟨z1,z2,z3,z4,_⟩:=pinB I10;have zl:its.toArray.size<=sizeLine:=by rw [_k,<- rv5.length];exact hz
    refine append_at (hsz:=zl) z3 fun h11 sb ea11=>?_;have I10':=(I10.pins_of (pins':=[]) (fun p hp=>absurd hp (by simp))).weak kl.symm kv;have I11:Inv (zw X N' scope (acc::fp) s₃ H2) [] (inner mp O) H10 {s10 with heap:=h11}:=I10'.turned (t':=s10.toks) (fun b o hb e=>(sb.2 b hb).trans e) z2 Cne (.inl _F) (celln acc _F) (fun p hp=>absurd hp (by simp [zw]));exact ⟨m',lt,i+1,ys++[y],its++[yv],H10,I11,T.keep _ _ _ z4 (fun b hb o e=>(sb.2 b (fne b hb)).trans e),z1,z2,ea11.trans (_am some (LCg.lst_snoc its yv)),rv5.append (.cons r10 .nil),w10⟩
 exact codeAny_compStart_list loop (T.self _ 0 _ _ _ tn4 loop)
theorem zci {X:Cx} {E0:XK} {tg iter elt:Expr} {ifs:List Expr} {scope:Scope} {pos:Pos} {wi:TI} {g:TG} {ti:TT} {te:TE} (N':List Str) (mp:List (Option Nat)) (hc:X.calm=true) (hst:X.stack=X.env::X.outer) (hef:X.env.frame=some X.env.locals) (hxe:X.ex=[]) (thr:Dd.ThruX X E0) (hi:PI X tg iter wi) (hg:∀ ex s H,PG (zw X N' scope ex s H) tg g) (ht:∀ ex s H,z4S (zw X N' scope ex s H) ifs ti) (he:∀ ex s H,PE ((zw X N' scope ex s H).wish (xeC X E0 N' scope ex s H)) elt te) (hkd:scope.kind=.function) (hnm:∀ y∈scope.names,scope.names.lookup y.1=some y.2) (hfr:∀ y∈scope.names,y.2=.free->X.env.kindOf y.1=some .cell\/X.env.kindOf y.1=some .free) (hmp:z1n X.N scope.names N' mp=true) (hs:∀ x,foldedSetIterable iter X.env x=pure x):PE X (.ListComp elt [⟨tg,iter,ifs,0⟩] scope pos) (zb9 wi mp g ti te):=by
 intro pins s O H Q I h;rw [eval_ListComp];refine _aV (use:=none) rfl hs (vp fun y hy hf=>I.ok.has _ (hfr y hy hf)) hkd (fun y hy hl=>by rw [hnm y hy,hl]) (thn (hi pins s O H _ I h) fun xv s₁ h₁=>thn h₁ fun itv s₂ h₂=>?_);obtain ⟨it,fp,tn,J,H2,e,I2,T,st2,f2,W,w0,turn⟩:=h₂;subst e;refine z7g (N':=N') (mp:=mp) (O:=O) (pins:=pins) (Q:=Q) (RR:=fun acc C=>compPost (model X.prog X.w) X.A X.xe none (EP X pins O Q) acc C) hc hg ht he hkd hnm hfr hmp I2 T st2 f2 W w0 turn hst hef hxe thr (fun acc C e s' h1 h2=>⟨h1.choose,h1.choose_spec,h2⟩) ?_;rintro acc C s' ⟨v,Hf,I3,r,q,⟨m,hm⟩,f⟩;exact ⟨m,hm,fun h' sb=>⟨v,Hf,qC I3 f sb,r,q⟩⟩
end L2
namespace Dd
open L2
theorem zef{X:Cx}{E:XK}{tg iter elt:Expr}{ifs:List Expr}{scope:Scope}{pos:Pos}{fi:FI}{fg:FG}{ft:FT}{fe:FE}{g:TG}(N':List Str)(mp:List (Option Nat))(hc:X.calm=true)(thr:ThruX X E)(hi:RI X E tg iter fi)(hg:∀ ex s H,PG (zw X N' scope ex s H) tg g)(hgt:z1N (gm X) E mp g fg)(ht:∀ ex s H,z4S (zw X N' scope ex s H) ifs (tT (gm X) E ft))(he:∀ ex s H,RE ((zw X N' scope ex s H).wish (xeC X E N' scope ex s H)) E elt fe) (hst:X.stack=X.env::X.outer:=by rfl)(hef:X.env.frame=some X.env.locals:=by rfl)(hxe:X.ex=[]:=by rfl) (hkd:scope.kind=.function:=by rfl)(hnm:z8q scope.names=true:=by rfl)(hfr:z92 X.env.kindOf scope.names=true:=by rfl)(hmp:z1n X.N scope.names N' mp=true:=by rfl) (hs:∀ x,foldedSetIterable iter X.env x=pure x:=by intro _;rfl):RE X E (.ListComp elt [⟨tg,iter,ifs,0⟩] scope pos) (zT fi mp fg ft fe):= zN ((zci (te:=tE (gm X) E fe) N' mp hc hst hef hxe thr hi hg ht (fun ex s H=>he ex s H) hkd (kW hnm) (kD hfr) hmp hs).freeze) fun O H Q ⟨Y,Z,s,r,en,h⟩=>by
  refine z09 hgt r en h fun H1 Y1 s1 xs vs r1 en1 dn h1 hcap=>?_;exact uA r1 h1 dn
end Dd
namespace K31
open L2 Dd Pg
def rsX:List Str:=["NoLot","NoRule"]
def csX:List Str:=["NoLot","NoTable","NoTuple","NotAlike","NotFair","NoText","NoRule","Ended","NoBottom","NoRoot","NoCube","NoSize","NoNumber","TooMany","NoStep","NoDeed","NoRow"]
@[simp] def z1l:FS:=(xY 1 (jO (za (z4R rsX "NoLot" (zc 0)) (za (z4R rsX "NoTable" (zc 0)) (za (z4R rsX "NoTuple" (zc 0)) (za (z4R rsX "NotAlike" (zc 0)) zh))))))
@[simp] def z13:FS:=(xY 1 (eOp vM (zc 1) (jO (za (z4R rsX "NotFair" (zc 0)) (za (z4R rsX "NoText" (zc 0)) (za (z4R rsX "NoRule" (zc 0)) (za (z4R rsX "Ended" (zc 0)) zh)))))))
@[simp] def z1g:FS:=(xY 1 (eOp vM (zc 1) (jO (za (z4R rsX "NoBottom" (zc 0)) (za (z4R rsX "NoRoot" (zc 0)) (za (z4R rsX "NoCube" (zc 0)) (za (z4R rsX "NoSize" (zc 0)) zh)))))))
@[simp] def z1f:FS:=(xY 1 (eOp vM (zc 1) (jO (za (z4R rsX "NoNumber" (zc 0)) (za (z4R rsX "TooMany" (zc 0)) (za (z4R rsX "NoStep" (zc 0)) (za (z4R rsX "NoDeed" (zc 0)) zh)))))))
@[simp] def z17:FS:=(xY 1 (eOp vM (zc 1) (jO (za (z4R rsX "NoRow" (zc 0)) zh))))
@[simp] def z1c:FS:=(wx (eC (.str "other")))
@[simp] def z1m:FS:=(fIf (fOr (tOf (eOp dNe (zeV (zc 1) (eC (.bl true))) (eC (.int 1)))) (z2c (tOf (zjp rsX (zc 0))))) z1c xo)
@[simp] def z19:FS:=(xY 2 (jO (za (eC (.str "lot")) (za (eC (.str "table")) (za (eC (.str "tuple")) (za (eC (.str "alike")) (za (eC (.str "fair")) (za (eC (.str "text")) (za (eC (.str "rule")) (za (eC (.str "ended")) (za (eC (.str "bottom")) zh)))))))))))
@[simp] def z1e:FS:=(xY 2 (eOp vM (zc 2) (jO (za (eC (.str "root")) (za (eC (.str "cube")) (za (eC (.str "size")) (za (eC (.str "number")) (za (eC (.str "many")) (za (eC (.str "step")) (za (eC (.str "deed")) (za (eC (.str "row")) zh)))))))))))
@[simp] def z0j:FS:=(wx (eOp dIx (zc 2) (zeM (zc 1) (eC (.bl true)))))
def z2k:FS:=(zy z1l (zy z13 (zy z1g (zy z1f (zy z17 (zy z1m (zy z19 (zy z1e z0j))))))))
def yX:Mir:=Mof ["_law_e","_law_some","_law_words"] 1 z2k
@[simp] def uw:FS:=(zj2 3 4 (za (z5O (eOp dIx (ze Pg.zL (za (zc 0) (za (zc 2) zh))) (eC (.int 0)))) (za (z5O (eOp dIx (ze Pg.zL (za (zc 1) (za (zc 2) zh))) (eC (.int 0)))) zh)))
@[simp] def z33:FS:=(xY 5 (eC (.int 0)))
@[simp] def xP:FS:=(xY 5 (eOp vM (zc 5) (eC (.int 1))))
@[simp] def jK:FS:=(z2l (zbL (tOf (eOp dLt (zc 5) (ze z4J (za (ze xi (za (zc 3) zh)) (za (ze xi (za (zc 4) zh)) zh))))) (tOf (eOp dEq (ze uc (za (eOp dIx (zc 3) (zc 5)) zh)) (ze uc (za (eOp dIx (zc 4) (zc 5)) zh))))) xP)
@[simp] def z32:FS:=(wx (zc 5))
def kK:FS:=(zy uw (zy z33 (zy jK z32)))
def xp:Mir:=Mof ["_law_one","_law_other","_law_lot_here","_law_mine","_law_own","_law_found"] 3 kK
@[simp] def xB:FS:=(vm (ze Pg.zK (za (zc 0) zh)))
@[simp] def wA:FS:=(vm (ze Pg.zK (za (zc 1) zh)))
@[simp] def xz:FS:=(z9X (zdz (za (z5O (z46 (ze Pg.X_run (za (zc 0) (za (zc 2) zh))))) (za (z5O (z46 (ze Pg.X_run (za (zc 1) (za (zc 2) zh))))) zh))) (wz 4 5) (zy (ur yq) (ur yY)))
def xU:FS:=(zy xB (zy wA (zy (ur z2Y) (zy xz (ur z2R)))))
def zQ:Mir:=z1h ["one","other","lot","many","left","right"] 3 xU
@[simp] def ww:FS:=(xY 1 (ze z3h (za (zT (z8t (yN.map Prod.fst)) [some 0,none] (vw 1) wS (wT (za (ze Pg.zF (za (zc 1) (za (zc 0) zh))) (za (zc 1) zh)))) zh)))
@[simp] def qg:FS:=(wx (kL (wU (zc 1)) [none,none] (wz 0 1) wS (wT (za (zc 1) (za (zc 0) zh)))))
def jo:FS:=(zy ww qg)
def yV:Mir:=z1h ["lot","found"] 1 jo
@[simp] def z00:FS:=(wx (ze Pg.zF (za (zc 1) (za (zc 3) zh))))
@[simp] def ym:FS:=(fIf (tOf (eOp dEq (zc 0) (eC (.int 0)))) z00 xo)
@[simp] def kT:FS:=(wx (ze yV (za (zc 3) zh)))
@[simp] def yu:FS:=(fIf (tOf (eOp dEq (zc 0) (eC (.int 1)))) kT xo)
@[simp] def yO:FS:=(wx (ze zQ (za (zc 1) (za (zc 2) (za (zc 3) zh)))))
@[simp] def qu:FS:=(wx (ze yX (za (zc 4) zh)))
@[simp] def uO:FS:=(zgJ rsX (zy ym (zy yu yO)) 4 qu)
def ja:FS:=uO
def zn:Mir:=Mof ["_law_way","_law_one","_law_other","_law_lot_here","_law_e"] 4 ja
@[simp] def z1z:FS:=(xY 2 (ze Pg.vy (za (ze Pg.yT (za (zc 0) (za (zc 1) zh))) zh)))
@[simp] def z2A:FS:=(xY 3 (ze Pg.uI (za (zc 2) zh)))
@[simp] def z26:FS:=(zcM (wT (za (eOp dIx (ze Pg.yx zh) (ze Pg.zm (za (zc 2) (za (eC (.int 4)) zh)))) (za (eOp dIx (ze Pg.yx zh) (ze Pg.zm (za (zc 2) (za (eC (.int 4)) zh)))) zh))) (wz 4 5))
@[simp] def z1G:FS:=(xY 6 (ze z3h (za (zT (wU (ze Pg.yx zh)) [some 3,none] (vw 1) wS (wT (za (ze xi (za (eOp dIx (ze Pg.zL (za (zc 1) (za (zc 0) zh))) (eC (.int 1))) zh)) (za (zc 1) zh)))) zh)))
@[simp] def z1Z:FS:=(xY 8 (ze zn (za (eC (.int 1)) (za (zc 4) (za (zc 5) (za (zc 3) zh))))))
@[simp] def zen:FS:=(wx (eC (.bl false)))
@[simp] def z1T:FS:=(fIf (z2c (tOf (ze Pg.yM (za (zc 8) (za (zT (wU (zc 6)) [none,none] (wz 0 1) wS (wT (za (zc 1) (za (zc 0) zh)))) zh))))) zen xo)
@[simp] def kM:FS:=(vm (zai (zc 8) (wT zh)))
@[simp] def z1Q:FS:=(z9X (z2K (za (eC (.int 2)) zh)) (vw 7) (zy z1Z (zy z1T kM)))
@[simp] def zce:FS:=(wx (eC (.bl false)))
@[simp] def jx:FS:=(fIf (z2c (tOf (ze Pg.yM (za (ze zn (za (eC (.int 0)) (za (zc 4) (za (zc 5) (za (zc 3) zh))))) (za (ze xi (za (eOp dIx (ze Pg.zL (za (zc 4) (za (zc 3) zh))) (eC (.int 1))) zh)) zh))))) zce xo)
@[simp] def zcm:FS:=(wx (eC (.bl false)))
@[simp] def jG:FS:=(fIf (z2c (tOf (ze Pg.yM (za (ze zn (za (eC (.int 2)) (za (zc 4) (za (zc 5) (za (zc 3) zh))))) (za (ze xp (za (zc 4) (za (zc 5) (za (zc 3) zh)))) zh))))) zcm xo)
@[simp] def jB:FS:=(zcM (wT (za (ze Pg.vE (za (zc 2) (za (zc 3) zh))) (za (ze Pg.xS (za (zc 2) (za (zc 4) zh))) zh))) (wz 9 10))
@[simp] def zc6:FS:=(wx (eC (.bl false)))
@[simp] def jH:FS:=(fIf (zbL (z2c (tOf (ze Pg.zZ (za (zc 9) zh)))) (tOf (eOp dNe (zT (z2K (za (eC (.int 3)) zh)) [some 4,some 5,some 9,none] (vw 3) wS (ze zn (za (zc 3) (za (zc 0) (za (zc 1) (za (zc 2) zh)))))) (eOp zfz (jO (za (eC (.str "lot")) zh)) (eC (.int 3)))))) zc6 xo)
@[simp] def jv:FS:=(xY 11 (jO (za (ze zn (za (eC (.int 0)) (za (zc 10) (za (zc 5) (za (zc 9) zh))))) (za (ze zn (za (eC (.int 2)) (za (zc 10) (za (zc 10) (za (zc 9) zh))))) (za (ze zn (za (eC (.int 2)) (za (zc 4) (za (zc 10) (za (zc 9) zh))))) zh)))))
@[simp] def zcq:FS:=(wx (eC (.bl false)))
@[simp] def jz:FS:=(fIf (tOf (eOp dNe (eOp vM (zc 11) (jO (za (ze zn (za (eC (.int 2)) (za (zc 10) (za (zc 4) (za (zc 3) zh))))) zh))) (eOp zfz (jO (za (eC (.str "rule")) zh)) (eC (.int 4))))) zcq xo)
@[simp] def z6C:FS:=(z9X (z2K (za (ze zck (za (eC (.int 1)) (za (ze z4J (za (ze xi (za (zc 0) zh)) (za (eC (.int 10)) zh))) zh))) zh)) (vw 1) (zy z1z (zy z2A (zy z26 (zy z1G (zy z1Q (zy jx (zy jG (zy jB (zy jH (zy jv jz)))))))))))
@[simp] def z4O:FS:=(wx (eOp dEq (ze zn (za (eC (.int 2)) (za (eC (.str "next")) (za (eC (.str "turn")) (za (wT (za (eC (.int 0)) (za (eC (.int 5)) zh))) zh))))) (eC (.int 1))))
def zcS:FS:=(zy z6C z4O)
def zeT:Mir:=Mof ["_law_script","_law_k","_law_pot_here","_law_lot_here","_law_one","_law_other","_law_steps","_law_turn","_law_found","_law_bad","_law_none","_law_rows"] 1 zcS
end K31
set_option maxHeartbeats 6000000
namespace K31
open L2 Dd Pg
structure Txt(mg:Str->Option Value):Prop where
 f0:∃ t,mg "LEAST_SIZE"=some (.int 2 t)
 f1:∃ t,mg "MOST_SIZE"=some (.int 4 t)
 f2:mg "ValueError"=none
 f3:mg "all"=none
 f4:mg "bool"=none
 f5:mg "enumerate"=none
 f6:mg "int"=none
 f7:mg "isinstance"=none
 f8:mg "len"=none
 f9:mg "list"=none
 f10:mg "max"=none
 f11:mg "min"=none
 f12:mg "range"=none
 f13:mg "sorted"=none
 f14:mg "str"=none
 f15:mg "tuple"=none
 f16:mg "zip"=none
theorem zcO:bootBuiltins "all"=some (.builtin "all"):=by decide +kernel
theorem z27:bootBuiltins "bool"=some (.type "bool"):=by decide +kernel
theorem z7Z:bootBuiltins "int"=some (.type "int"):=by decide +kernel
theorem wg:bootBuiltins "len"=some (.builtin "len"):=by decide +kernel
theorem z43:bootBuiltins "list"=some (.type "list"):=by decide +kernel
theorem kH:bootBuiltins "max"=some (.builtin "max"):=by decide +kernel
theorem z80:bootBuiltins "min"=some (.builtin "min"):=by decide +kernel
theorem vC:bootBuiltins "sorted"=some (.builtin "sorted"):=by decide +kernel
theorem zdk:bootBuiltins "str"=some (.type "str"):=by decide +kernel
theorem wv:bootBuiltins "tuple"=some (.type "tuple"):=by decide +kernel
theorem zkf:(["_law_lot_here","_law_rule"]:List Str).Nodup:=by decide +kernel
theorem zjG:(["_law_many","_law_rule"]:List Str).Nodup:=by decide +kernel
theorem zka:(["_law_one","_law_other","_law_bad","_law_way"]:List Str).Nodup:=by decide +kernel
theorem zkx:(["lot","rule"]:List Str).Nodup:=by decide +kernel
theorem zjI:(["steps","rule"]:List Str).Nodup:=by decide +kernel
theorem zjO:(["part"]:List Str).Nodup:=by decide +kernel
theorem zk7:(["lot","by","number","quotient"]:List Str).Nodup:=by decide +kernel
theorem zjS:(["divided","lot","by","at"]:List Str).Nodup:=by decide +kernel
theorem zjv:(["number"]:List Str).Nodup:=by decide +kernel
theorem zkb:(["place","at"]:List Str).Nodup:=by decide +kernel
theorem zhV:(["_law_place","_law_number"]:List Str).Nodup:=by decide +kernel
theorem zjc:(["_law_lot_here","_law_place"]:List Str).Nodup:=by decide +kernel
theorem zh3:(["_law_top","_law_number","_law_place"]:List Str).Nodup:=by decide +kernel
theorem zhU:(["_law_most","_law_top","_law_lot_here","_law_place"]:List Str).Nodup:=by decide +kernel
theorem zid:(["_law_by","_law_place"]:List Str).Nodup:=by decide +kernel
theorem zje:(["_law_quotients","_law_lot_here","_law_by","_law_place","_law_number"]:List Str).Nodup:=by decide +kernel
theorem ziX:(["_law_place","_law_column"]:List Str).Nodup:=by decide +kernel
theorem ziP:(["_law_number"]:List Str).Nodup:=by decide +kernel
theorem zic:(["_law_one","_law_other"]:List Str).Nodup:=by decide +kernel
theorem ziQ:(["_law_more","_law_number"]:List Str).Nodup:=by decide +kernel
section
local macro_rules | `(tactic| trivial)=>`(tactic| exact ⟨rfl,rfl,rfl,by decide +kernel,rfl,by decide +kernel,by decide +kernel⟩)
theorem z6W:zt ["thing"] ["thing"] (zg ku):=by trivial
theorem z7a:zt ["thing"] ["thing"] (zg kj):=by trivial
theorem wE:zt ["lot","at"] ["lot"] (zg xh):=by trivial
theorem z2G:zt ["lot"] ["lot"] (zg ut):=by trivial
theorem z8L:zt ["lot","place"] ["lot","place"] (zg z0q):=by trivial
theorem z8s:zt ["thing"] ["thing"] (zg z0d):=by trivial
theorem zbI:zt ["rule","numbers"] ["rule","numbers"] (zg z4w):=by trivial
theorem z1L:zt ["_law_script","_law_k"] ["_law_script","_law_k"] (zg vH):=by trivial
theorem wG:zt ["_law_cell","_law_number","_law_j","_law_more"] ["_law_cell"] (zg ky):=by trivial
theorem z0B:zt ["_law_pot_here","_law_far","_law_found"] ["_law_pot_here","_law_far"] (zg ju):=by trivial
theorem z4o:zt [] [] (zg uS):=by trivial
theorem zD:zt ["_law_rule","_law_lot_here","_law_size","_law_order","_law_top","_law_by","_law_most","_law_some","_law_quotients","_law_place","_law_later","_law_lines","_law_line"] ["_law_rule","_law_lot_here"] (zg qT):=by trivial
theorem z3K:zt ["_law_lot_here"] ["_law_lot_here"] (zg uP):=by trivial
theorem z4b:zt ["_law_thing"] ["_law_thing"] (zg qw):=by trivial
theorem yb:zt ["_law_e","_law_some","_law_words"] ["_law_e"] (zg vF):=by trivial
theorem z49:zt ["thing","many"] ["thing","many"] (zg uN):=by trivial
theorem z3i:zt ["lot","greatest","others"] ["lot"] (zg z0n):=by trivial
theorem z23:zt ["lot","greatest","others"] ["lot"] (zg kc):=by trivial
theorem z5j:zt ["lot","by"] ["lot"] (zg z1H):=by trivial
theorem z90:zt ["lot"] ["lot"] (zg z0p):=by trivial
theorem z0U:zt ["thing"] ["thing"] (zg vW):=by trivial
theorem xq:zt ["_law_pot_here","_law_size","_law_far","_law_thin","_law_numbers","_law_place","_law_number","_law_more"] ["_law_pot_here"] (zg kr):=by trivial
theorem uU:zt ["_law_rule","_law_lot_here","_law_lots","_law_tables","_law_later","_law_table"] ["_law_rule","_law_lot_here"] (zg kf):=by trivial
theorem qZ:zt ["_law_pot_here","_law_rule","_law_some"] ["_law_pot_here","_law_rule"] (zg vN):=by trivial
theorem jM:zt ["_law_thing","_law_number"] ["_law_thing"] (zg uq):=by trivial
theorem z1M:zt ["_law_pot_here","_law_some"] ["_law_pot_here"] (zg kn):=by trivial
theorem z6j:zt ["_law_found","_law_due"] ["_law_found","_law_due"] (zg vT):=by trivial
theorem z9F:zt ["thing"] ["thing"] (zg z2w):=by trivial
theorem kw:zt ["rule","lot","deal","by","divided"] ["rule","lot"] (zg kq):=by trivial
theorem wf:zt ["_law_pot_here","_law_row","_law_at","_law_odd_here","_law_some"] ["_law_pot_here","_law_row"] (zg jg):=by trivial
theorem vg:zt ["_law_one","_law_other","_law_lot_here","_law_mine","_law_own","_law_found"] ["_law_one","_law_other","_law_lot_here"] (zg qB):=by trivial
theorem z1C:zt ["thing"] ["thing"] (zg uQ):=by trivial
theorem z5Q:zt ["lot"] ["lot"] (zg qW):=by trivial
theorem vb:zt ["rule","lot"] ["rule","lot"] (zg yB):=by trivial
theorem z64:zt ["rule","lot"] ["rule","lot"] (zg js):=by trivial
theorem z6y:zt ["rule","lot","by","quotients","left"] ["rule","lot"] (zg z6u):=by trivial
theorem zcT:zt ["rule","lot","lots"] ["rule","lot"] (zg zaD):=by trivial
theorem z44:zt ["rule","lot"] ["rule","lot"] (zg qp):=by trivial
theorem vn:zt ["one","other","lot","many","left","right"] ["one","other","lot"] (zg qk):=by trivial
theorem z2r:zt ["lot","found"] ["lot"] (zg ke):=by trivial
theorem z0C:zt ["_law_way","_law_one","_law_other","_law_lot_here","_law_e"] ["_law_way","_law_one","_law_other","_law_lot_here"] (zg qU):=by trivial
theorem jR:zt ["_law_script","_law_k","_law_pot_here","_law_lot_here","_law_one","_law_other","_law_steps","_law_turn","_law_found","_law_bad","_law_none","_law_rows"] ["_law_script"] (zg z37):=by trivial
end
section
variable {P:Program}{w:World}{K:W.Frag}{mg:Str->Option Value}{base:Heap}(T:Txt mg){f:Addr}{fd:FuncData}
include T
local macro_rules | `(tactic| trivial)=>`(tactic| first | exact (fun _ _ _ _ _ _ us hl=>match us,hl with | [],_=>rfl) | exact (fun _ _ _ _ _ _ us hl=>match us,hl with | [_],_=>rfl) | exact (fun _ _ _ _ _ _ us hl=>match us,hl with | [_,_],_=>rfl) | exact (fun _ _ _ _ _ _ us hl=>match us,hl with | [_,_,_],_=>rfl) | exact (fun _ _ _ _ _ _ us hl=>match us,hl with | [_,_,_,_],_=>rfl))
theorem z62(F:Fun K "is_whole" "is_whole" ku f fd)(hm:mg "is_whole"=some (.ref f))  : Has P w K mg base CX0 "is_whole" 1 Pg.wk:= (zX F hm (F.binds (ps:=["thing"]) (by trivial)) z6W rfl fun cdv A outer s H E hr hc=> have hu:=hr.units;(zk (zV (z5Y (z6k (by decide) z7Z (by rfl) T.f7 (by rfl) T.f6 (zb 0)) (z5A (zgm (z6k (by decide) z27 (by rfl) T.f7 (by rfl) T.f4 (zb 0))))))))
theorem z5L (F:Fun K "has_size" "has_size" kj f fd) (hm:mg "has_size"=some (.ref f))  : Has P w K mg base CX0 "has_size" 1 Pg.yr:= (zX F hm (F.binds (ps:=["thing"]) (by trivial)) z7a rfl fun cdv A outer s H E hr hc=> have hu:=hr.units;(zk (zV (z5Y (z6k (by decide) wv (by rfl) T.f7 (by rfl) T.f15 (zb 0)) (z5A (zeJ zjh zjh (zjB (by rfl) T.f0) (zC uD (by rfl) T.f8 wg (aN (zb 0) zd) (he:=(zr ..))) (zjB (by rfl) T.f1)))))))
theorem qo (F:Fun K "greatest_and_others" "greatest_and_others" xh f fd) (hm:mg "greatest_and_others"=some (.ref f))  : Has P w K mg base CX0 "greatest_and_others" 1 Pg.zx:= (zX F hm (F.binds (ps:=["lot"]) (by trivial)) wE rfl fun cdv A outer s H E hr hc=> have hu:=hr.units;(zf (ye 1 wE.nd (z76 (zb 0) (zC (z0z (by exact hc)) (by rfl) T.f10 kH (aN (zb 0) zd) (he:=(zr ..))))) (zk (zV (xr (aN (zb 1) (aB (zI xj (zI xj (xL (zb 0) vc (wQ (zb 1))) (xr (aK zj zd))) (xL (zb 0) (wQ (zI xj (zb 1) zj)) vc)) zd)))))))
theorem z2s (F:Fun K "least_place" "least_place" ut f fd) (hm:mg "least_place"=some (.ref f))  : Has P w K mg base CX0 "least_place" 1 Pg.zY:= (zX F hm (F.binds (ps:=["lot"]) (by trivial)) z2G rfl fun cdv A outer s H E hr hc=> have hu:=hr.units;(zk (zV (z76 (zb 0) (zC (zd1 (by exact hc)) (by rfl) T.f11 z80 (aO (xw ["number"] [none] (by exact hc) (z1i (zb 0)) (fun _ _ _=>yQ (i:=0) zjv (by rfl) (by first | exact Or.inl rfl | exact Or.inr rfl)) (xm 0 (by rfl)) (fun _ _ _=>ul (zR (z7s hu) (zb 0) zj)) (fun _ _ _=>(zb 0))) zd) (he:=(yR ..)))))))
theorem z7k (F:Fun K "all_but" "all_but" z0q f fd) (hm:mg "all_but"=some (.ref f))  : Has P w K mg base CX0 "all_but" 1 Pg.xV:= (zX F hm (F.binds (ps:=["lot","place"]) (by trivial)) z8L rfl fun cdv A outer s H E hr hc=> have hu:=hr.units;(zk (zV (xw ["place","at"] [some 1,none] (by exact hc) (wX (by rfl) T.f12 (aQ (zC uD (by rfl) T.f8 wg (aN (zb 0) zd) (he:=(zr ..))) zd)) (fun _ _ _=>yQ (i:=1) zkb (by rfl) (by first | exact Or.inl rfl | exact Or.inr rfl)) (xm 1 (by rfl)) (fun _ _ _=>ul (zR (z7s hu) (zb 1) (zb 0))) (fun _ _ _=>(zb 1))))))
theorem z6S(F:Fun K "is_rule" "is_rule" z0d f fd)(hm:mg "is_rule"=some (.ref f))(T_RULES:zeq P w K mg "RULES" yN):Has P w K mg base CX0 "is_rule" 1 Pg.yD:= (zX F hm (F.binds (ps:=["thing"]) (by trivial)) z8s rfl fun cdv A outer s H E hr hc=> have hu:=hr.units;(zk (zV (z5Y (z6k (by decide) zdk (by rfl) T.f7 (by rfl) T.f14 (zb 0)) (z5A (zeZ T_RULES (by rfl) (zb 0)))))))
theorem zad(F:Fun K "moved" "moved" z4w f fd)(hm:mg "moved"=some (.ref f))  : Has P w K mg base CX0 "moved" 1 Pg.jZ:= (zX F hm (F.binds (ps:=["rule","numbers"]) (by trivial)) zbI rfl fun cdv A outer s H E hr hc=> have hu:=hr.units;(zk (zV (zjj (zR (z2E hu) (zb 0) yP) (zI xj (xL (zb 1) (wQ zj) vc) (xL (zb 1) vc (wQ zj))) (zb 1)))))
theorem z1k (F:Fun K "_law_cell_at" "_law_cell_at" vH f fd) (hm:mg "_law_cell_at"=some (.ref f))  : Has P w K mg base CX0 "_law_cell_at" 1 Pg.yT:= (zX F hm (F.binds (ps:=["_law_script","_law_k"]) (by trivial)) z1L rfl fun cdv A outer s H E hr hc=> have hu:=hr.units;(zf (jI (zR zj1 (zb 1) (zC uD (by rfl) T.f8 wg (aN (zb 0) zd) (he:=(zr ..)))) (zk (zV (uj (zb 0) (zb 1)))) yj) (zk (zV zj))))
theorem z65(F:Fun K "_law_pot" "_law_pot" ky f fd)(hm:mg "_law_pot"=some (.ref f))  : Has P w K mg base CX0 "_law_pot" 1 Pg.vy:= (zX F hm (F.binds (ps:=["_law_cell"]) (by trivial)) wG rfl fun cdv A outer s H E hr hc=> have hu:=hr.units;(zf (jI (zR ziY (zb 0) (zI z8P zj zj)) (zk (zV (z60 (aB (zI z6Q (zb 0) (zI z8P zj zj)) zd)))) yj) (zf (ye 1 wG.nd zj) (zf (z5N _aq hc (wX (by rfl) T.f12 (aK zj zd)) (z2y 2 wG.nd) (zf (ye 3 wG.nd (zI zc0 (zI kS (zI xj (zI xj (zI zc0 (zb 0) zj) (zI kS zj (zb 2))) zj) zj) zj)) (zf (ye 3 wG.nd (zI zc0 (zI xj (zI xj (zI kS (zb 3) (zb 3)) (zI kS zj (zb 2))) zj) zj)) (zk (ye 1 wG.nd (zI xj (zI kS (zb 1) zj) (zb 3))))))) (zk (zV (z60 (aN (zb 1) zd))))))))
theorem z3F(F:Fun K "_law_take" "_law_take" ju f fd)(hm:mg "_law_take"=some (.ref f))  : Has P w K mg base CX0 "_law_take" 1 Pg.zm:= (zX F hm (F.binds (ps:=["_law_pot_here","_law_far"]) (by trivial)) z0B rfl fun cdv A outer s H E hr hc=> have hu:=hr.units;(zf (ye 2 z0B.nd (zI zc0 (uj (zb 0) zj) (zb 1))) (zf (z3o (zI zaE (uj (zb 0) zj) (zb 1)) (zb 0) zj) (zk (zV (zb 2))))))
theorem z2I(F:Fun K "_law_rules" "_law_rules" uS f fd)(hm:mg "_law_rules"=some (.ref f))  : Has P w K mg base CX0 "_law_rules" 1 Pg.yx:= (zX F hm (F.binds (ps:=[]) (by trivial)) z4o rfl fun cdv A outer s H E hr hc=> have hu:=hr.units;(zk (zV (wW (aK yP (aK yP (aK yP (aK yP zd))))))))
theorem z4q (F:Fun K "_law_step" "_law_step" qT f fd) (hm:mg "_law_step"=some (.ref f))  : Has P w K mg base CX0 "_law_step" 1 Pg.xZ:= (zX F hm (F.binds (ps:=["_law_rule","_law_lot_here"]) (by trivial)) zD rfl fun cdv A outer s H E hr hc=> have hu:=hr.units;(zf (ye 2 zD.nd (zC uD (by rfl) T.f8 wg (aN (zb 1) zd) (he:=(zr ..)))) (zf (ye 3 zD.nd (zC zbv (by rfl) T.f13 vC (aO (xw ["_law_place","_law_number"] [none,none] (by exact hc) (zdC (by rfl) T.f5 (aN (zb 1) zd)) (fun _ _ _=>vZ 0 1 (by exact hc) zhV) (vP 0 1 (by decide) (by rfl) (by rfl)) (fun _ _ _=>ul (zR zhr (zb 1) zj)) (fun _ _ _=>(xr (aN (zb 1) (aN (zb 0) zd))))) zd) (he:=(yR ..)))) (zf (ye 4 zD.nd (uj (xw ["_law_lot_here","_law_place"] [some 1,none] (by exact hc) (wX (by rfl) T.f12 (aN (zb 2) zd)) (fun _ _ _=>yQ (i:=1) zjc (by rfl) (by first | exact Or.inl rfl | exact Or.inr rfl)) (xm 1 (by rfl)) (fun _ _ _=>ul (zR (z2E hu) (uj (zb 0) (zb 1)) (zC (z0z (by exact hc)) (by rfl) T.f10 kH (aN (zb 0) zd) (he:=(zr ..))))) (fun _ _ _=>(zb 1))) zj)) (zf (ye 5 zD.nd (zgU (by decide) (uj (uj (zb 3) zj) zj) zj (zb 0))) (zf (jI (zR (z2E hu) (zb 0) yP) (zk (ye 5 zD.nd (uj (xw ["_law_top","_law_number","_law_place"] [some 4,none,none] (by exact hc) (z1i (zb 3)) (fun _ _ _=>vZ 1 2 (by exact hc) zh3) (vP 1 2 (by decide) (by rfl) (by rfl)) (fun _ _ _=>ul (zR (z7s hu) (zb 2) (zb 0))) (fun _ _ _=>(zb 2))) zj))) yj) (zf (jI (zR (z2E hu) (zb 0) yP) (zf (ye 6 zD.nd (zC (z0z (by exact hc)) (by rfl) T.f10 kH (aO (xw ["_law_top","_law_number","_law_place"] [some 4,none,none] (by exact hc) (z1i (zb 3)) (fun _ _ _=>vZ 1 2 (by exact hc) zh3) (vP 1 2 (by decide) (by rfl) (by rfl)) (fun _ _ _=>ul (zR (z7s hu) (zb 2) (zb 0))) (fun _ _ _=>(zb 1))) zd) (he:=(yR ..)))) (zk (ye 5 zD.nd (uj (xw ["_law_most","_law_top","_law_lot_here","_law_place"] [some 6,some 4,some 1,none] (by exact hc) (wX (by rfl) T.f12 (aN (zb 2) zd)) (fun _ _ _=>yQ (i:=3) zhU (by rfl) (by first | exact Or.inl rfl | exact Or.inr rfl)) (xm 3 (by rfl)) (fun _ _ _=>ul (RW.rt (w_and (zR (z2E hu) (uj (zb 2) (zb 3)) (zb 0)) (za7 (zR (z7s hu) (zb 3) (zb 1)))))) (fun _ _ _=>(zb 3))) zj)))) yj) (zf (z9O 7 ["_law_by","_law_place"] [some 5,none] zD.nd hc (wX (by rfl) T.f12 (aN (zb 2) zd)) (fun _ _ _=>yQ (i:=1) zid (by rfl) (by first | exact Or.inl rfl | exact Or.inr rfl)) (xm 1 (by rfl)) (fun _ _ _=>ul (zR (z7s hu) (zb 1) (zb 0))) (fun _ _ _=>(zb 1))) (zf (jI (zR zjt (zb 0) (xr (aK yP (aK yP zd)))) (zk (ye 7 zD.nd (wW (aN (zb 4) zd)))) yj) (zf (ye 8 zD.nd (zI zg5 (z60 (aK zj zd)) (zb 2))) (zf (z5N _aq hc (z1i (zb 7)) (z2y 9 zD.nd) (zk (jI (zR zhr (uj (zb 1) (zb 5)) zj) (zk (z3o (zI zaE (uj (zb 1) (zb 9)) (uj (zb 1) (zb 5))) (zb 8) (zb 9))) yj))) (zf (z9O 10 ["_law_quotients","_law_lot_here","_law_by","_law_place","_law_number"] [some 8,some 1,some 5,none,none] zD.nd hc (zdC (by rfl) T.f5 (aN (zb 1) zd)) (fun _ _ _=>vZ 3 4 (by exact hc) zje) (vP 3 4 (by decide) (by rfl) (by rfl)) (fun _ _ _=>wV) (fun _ _ _=>(zI z6Q (zb 4) (zI kS (uj (zb 0) (zb 3)) (uj (zb 1) (zb 2)))))) (zf (ye 11 zD.nd (z60 zd)) (zf (z5N _aq hc (wX (by rfl) T.f12 (aN (zb 2) zd)) (z2y 9 zD.nd) (zf (zf2 12 ["_law_place","_law_column"] [some 9,none] zD.nd hc (wX (by rfl) T.f12 (aN (zb 2) zd)) (fun _ _ _=>yQ (i:=1) ziX (by rfl) (by first | exact Or.inl rfl | exact Or.inr rfl)) (xm 1 (by rfl)) (fun _ _ _=>wV) (fun _ _ _=>(qR zgx (by rfl) T.f6 z7Z (aM (qF (z2E hu) (zb 0) (zb 1)) zd) (he:=(z3L ..))))) (zf (z3o (zI xj (uj (zb 12) (zb 5)) (uj (zb 8) (zb 9))) (zb 12) (zb 5)) (zf (jI (zR (z2E hu) (zb 0) yP) (zk (ye 12 zD.nd (zI xj (xL (zb 12) (wQ zj) vc) (xL (zb 12) vc (wQ zj))))) yj) (zk (vd (jC (zb 11) (qR z2B (by rfl) T.f15 wv (aN (zb 12) zd) (he:=(zr ..)))))))))) (zf (jI (zR (z2E hu) (zb 0) yP) (zk (ye 10 zD.nd (zI xj (xL (zb 10) (wQ zj) vc) (xL (zb 10) vc (wQ zj))))) yj) (zk (zV (xr (aQ (qR z2B (by rfl) T.f15 wv (aN (zb 10) zd) (he:=(zr ..))) (aQ (qR z2B (by rfl) T.f15 wv (aN (zb 11) zd) (he:=(zr ..))) zd)))))))))))))))))))).tidy
theorem z30 (F:Fun K "_law_ended" "_law_ended" uP f fd) (hm:mg "_law_ended"=some (.ref f))  : Has P w K mg base CX0 "_law_ended" 1 Pg.yJ:= (zX F hm (F.binds (ps:=["_law_lot_here"]) (by trivial)) z3K rfl fun cdv A outer s H E hr hc=> have hu:=hr.units;(zk (zV (qF (z2E hu) (zC uD (by rfl) T.f8 wg (aO (xw ["_law_number"] [none] (by exact hc) (z1i (zb 0)) (fun _ _ _=>yQ (i:=0) ziP (by rfl) (by first | exact Or.inl rfl | exact Or.inr rfl)) (xm 0 (by rfl)) (fun _ _ _=>ul (zR zhr (zb 0) zj)) (fun _ _ _=>(zb 0))) zd) (he:=(yR ..))) zj))))
theorem z2L(F:Fun K "_law_whole" "_law_whole" qw f fd)(hm:mg "_law_whole"=some (.ref f))  : Has P w K mg base CX0 "_law_whole" 1 Pg.yK:= (zX F hm (F.binds (ps:=["_law_thing"]) (by trivial)) z4b rfl fun cdv A outer s H E hr hc=> have hu:=hr.units;(zk (zV (z5Y (z6k (by decide) z7Z (by rfl) T.f7 (by rfl) T.f6 (zb 0)) (z5A (zgm (z6k (by decide) z27 (by rfl) T.f7 (by rfl) T.f4 (zb 0))))))))
theorem z18(F:Fun K "_law_kind_of" "_law_kind_of" vF f fd)(hm:mg "_law_kind_of"=some (.ref f))(FM:z5h ⟨mg,K⟩ rsX csX):zhG P w K mg base CX0 "_law_kind_of" 1 yX:= zeA F hm (F.binds (ps:=["_law_e"]) (by trivial)) yb rfl fun cdv A outer s H E hr=> have hu:=hr.units;(zf (ye 1 yb.nd (wW (aQ (jq FM (by decide) (by rfl) T.f7 (by rfl) (zb 0)) (aQ (jq FM (by decide) (by rfl) T.f7 (by rfl) (zb 0)) (aQ (jq FM (by decide) (by rfl) T.f7 (by rfl) (zb 0)) (aQ (jq FM (by decide) (by rfl) T.f7 (by rfl) (zb 0)) zd)))))) (zf (ye 1 yb.nd (zI xj (zb 1) (wW (aQ (jq FM (by decide) (by rfl) T.f7 (by rfl) (zb 0)) (aQ (jq FM (by decide) (by rfl) T.f7 (by rfl) (zb 0)) (aQ (jq FM (by decide) (by rfl) T.f7 (by rfl) (zb 0)) (aQ (jq FM (by decide) (by rfl) T.f7 (by rfl) (zb 0)) zd))))))) (zf (ye 1 yb.nd (zI xj (zb 1) (wW (aQ (jq FM (by decide) (by rfl) T.f7 (by rfl) (zb 0)) (aQ (jq FM (by decide) (by rfl) T.f7 (by rfl) (zb 0)) (aQ (jq FM (by decide) (by rfl) T.f7 (by rfl) (zb 0)) (aQ (jq FM (by decide) (by rfl) T.f7 (by rfl) (zb 0)) zd))))))) (zf (ye 1 yb.nd (zI xj (zb 1) (wW (aQ (jq FM (by decide) (by rfl) T.f7 (by rfl) (zb 0)) (aQ (jq FM (by decide) (by rfl) T.f7 (by rfl) (zb 0)) (aQ (jq FM (by decide) (by rfl) T.f7 (by rfl) (zb 0)) (aQ (jq FM (by decide) (by rfl) T.f7 (by rfl) (zb 0)) zd))))))) (zf (ye 1 yb.nd (zI xj (zb 1) (wW (aQ (jq FM (by decide) (by rfl) T.f7 (by rfl) (zb 0)) zd)))) (zf (jI (RW.rt (zdD (zR (z7s hu) (zbl (zb 1) z63) zj) (z6M (jJ (uH (zhX FM (by rfl) T.f7 (by rfl) T.f2 (zb 0))))))) (zk (zV yP)) yj) (zf (ye 2 yb.nd (wW (aK yP (aK yP (aK yP (aK yP (aK yP (aK yP (aK yP (aK yP (aK yP zd))))))))))) (zf (ye 2 yb.nd (zI xj (zb 2) (wW (aK yP (aK yP (aK yP (aK yP (aK yP (aK yP (aK yP (aK yP zd))))))))))) (zk (zV (uj (zb 2) (zch (zb 1) z63))))))))))))
theorem z2P (F:Fun K "are_wholes" "are_wholes" uN f fd) (hm:mg "are_wholes"=some (.ref f)) (H_is_whole:Has P w K mg base CX0 "is_whole" 1 Pg.wk):Has P w K mg base CX0 "are_wholes" 2 Pg.yo:= (zX F hm (F.binds (ps:=["thing","many"]) (by trivial)) z49 rfl fun cdv A outer s H E hr hc=> have hu:=hr.units;(zf (jI (RW.rt (zdD (jJ (uH (z6k (by decide) wv (by rfl) T.f7 (by rfl) T.f15 (zb 0)))) (z6M (zR (z7s hu) (zC uD (by rfl) T.f8 wg (aN (zb 0) zd) (he:=(zr ..))) (zb 1))))) (zk (zV z63)) yj) (zk (zV (zC (zgG (by exact hc)) (by rfl) T.f3 zcO (aO (xw ["part"] [none] (by exact hc) (z1i (zb 0)) (fun _ _ _=>yQ (i:=0) zjO (by rfl) (by first | exact Or.inl rfl | exact Or.inr rfl)) (xm 0 (by rfl)) (fun _ _ _=>wV) (fun _ _ _=>(yH H_is_whole hr zH (aN (zb 0) zd)))) zd) (he:=(yR ..)))))))
theorem z6s (F:Fun K "by_next" "by_next" z0n f fd) (hm:mg "by_next"=some (.ref f)) (H_greatest_and_others:Has P w K mg base CX0 "greatest_and_others" 1 Pg.zx):Has P w K mg base CX0 "by_next" 2 Pg.wN:= (zX F hm (F.binds (ps:=["lot"]) (by trivial)) z3i rfl fun cdv A outer s H E hr hc=> have hu:=hr.units;(zf (z6m (yH H_greatest_and_others hr zH (aN (zb 0) zd)) (z0u 1 2 hc z3i.nd)) (zk (zV (xr (aQ (z76 (zb 2) (zC (z0z (by exact hc)) (by rfl) T.f10 kH (aN (zb 2) zd) (he:=(zr ..)))) (aL (wW (aN (zb 1) zd)) zd)))))))
theorem z55(F:Fun K "by_least" "by_least" kc f fd)(hm:mg "by_least"=some (.ref f))(H_greatest_and_others:Has P w K mg base CX0 "greatest_and_others" 1 Pg.zx)(H_least_place:Has P w K mg base CX0 "least_place" 1 Pg.zY):Has P w K mg base CX0 "by_least" 2 Pg.wj:= (zX F hm (F.binds (ps:=["lot"]) (by trivial)) z23 rfl fun cdv A outer s H E hr hc=> have hu:=hr.units;(zf (z6m (yH H_greatest_and_others hr zH (aN (zb 0) zd)) (z0u 1 2 hc z23.nd)) (zk (zV (xr (aQ (yH H_least_place hr zH (aN (zb 2) zd)) (aL (wW (aN (zb 1) zd)) zd)))))))
theorem z8Y(F:Fun K "by_all" "by_all" z1H f fd)(hm:mg "by_all"=some (.ref f))(H_least_place:Has P w K mg base CX0 "least_place" 1 Pg.zY)(H_all_but:Has P w K mg base CX0 "all_but" 1 Pg.xV):Has P w K mg base CX0 "by_all" 2 Pg.vX:= (zX F hm (F.binds (ps:=["lot"]) (by trivial)) z5j rfl fun cdv A outer s H E hr hc=> have hu:=hr.units;(zf (ye 1 z5j.nd (yH H_least_place hr zH (aN (zb 0) zd))) (zk (zV (xr (aN (zb 1) (aQ (yH H_all_but hr zH (aN (zb 0) (aN (zb 1) zd))) zd)))))))
theorem z6A(F:Fun K "by_turn" "by_turn" z0p f fd)(hm:mg "by_turn"=some (.ref f))(H_all_but:Has P w K mg base CX0 "all_but" 1 Pg.xV):Has P w K mg base CX0 "by_turn" 2 Pg.wO:= (zX F hm (F.binds (ps:=["lot"]) (by trivial)) z90 rfl fun cdv A outer s H E hr hc=> have hu:=hr.units;(zf (jI (zR (z2E hu) (uj (zb 0) zj) zj) (zk (zV (xr (aK zj (aL (wW zd) zd))))) yj) (zk (zV (xr (aK zj (aQ (yH H_all_but hr zH (aN (zb 0) (aK zj zd))) zd)))))))
theorem z2V(F:Fun K "want_rule" "want_rule" vW f fd)(hm:mg "want_rule"=some (.ref f))(E_NoRule:zfw K mg "NoRule")(H_is_rule:Has P w K mg base CX0 "is_rule" 1 Pg.yD):Has P w K mg base (CX1 P w) "want_rule" 2 Pg.zK:= (kh F hm (F.binds (ps:=["thing"]) (by trivial)) z0U rfl fun cdv A outer s H E hr hc=> have hu:=hr.units;(zk (jI (jJ (uH (yH H_is_rule hr zgt (aN (zb 0) zd)))) (zk (z9i E_NoRule z7D hc (by rfl))) yj)))
theorem z4G(F:Fun K "want_rule" "want_rule" vW f fd)(hm:mg "want_rule"=some (.ref f))(H_is_rule:Has P w K mg base CX0 "is_rule" 1 Pg.yD):Has P w K mg base CX0 "want_rule" 2 Pg.wb:= (zX F hm (F.binds (ps:=["thing"]) (by trivial)) z0U rfl fun cdv A outer s H E hr hc=> have hu:=hr.units;(zk (jI (jJ (uH (yH H_is_rule hr zH (aN (zb 0) zd)))) (zk z6q) yj)))
theorem z4Z (F:Fun K "_law_lot" "_law_lot" kr f fd) (hm:mg "_law_lot"=some (.ref f)) (H__law_take:Has P w K mg base CX0 "_law_take" 1 Pg.zm):Has P w K mg base CX0 "_law_lot" 2 Pg.uI:= (zX F hm (F.binds (ps:=["_law_pot_here"]) (by trivial)) xq rfl fun cdv A outer s H E hr hc=> have hu:=hr.units;(zf (ye 1 xq.nd (zI xj zj (yH H__law_take hr zH (aN (zb 0) (aK zj zd))))) (zf (ye 2 xq.nd (uj (wW (aK zj (aK zj (aB (zI z8P zj zj) (aB (zI z8P zj zj) (aK zj (aK zj zd))))))) (yH H__law_take hr zH (aN (zb 0) (aK zj zd))))) (zf (ye 3 xq.nd (yH H__law_take hr zH (aN (zb 0) (aK zj zd)))) (zf (ye 4 xq.nd (z60 zd)) (zf (z5N _aq hc (wX (by rfl) T.f12 (aN (zb 1) zd)) (z2y 5 xq.nd) (zf (ye 6 xq.nd (zI xj (yH H__law_take hr zH (aN (zb 0) (aN (zb 2) zd))) zj)) (zk (vd (jC (zb 4) (zI kS (zb 6) (qR zgx (by rfl) T.f6 z7Z (aM (qF ziY (yH H__law_take hr zH (aN (zb 0) (aK zj zd))) (zb 3)) zd) (he:=(z3L ..))))))))) (zf (jI (zR (z2E hu) (zC (z0z (by exact hc)) (by rfl) T.f10 kH (aN (zb 4) zd) (he:=(zr ..))) zj) (zk (z3o (zI xj zj (yH H__law_take hr zH (aN (zb 0) (aN (zb 2) zd)))) (zb 4) (yH H__law_take hr zH (aN (zb 0) (aN (zb 1) zd))))) yj) (zf (ye 7 xq.nd (zI xj zj (yH H__law_take hr zH (aN (zb 0) (aK zj zd))))) (zf (jI (zR (z2E hu) (yH H__law_take hr zH (aN (zb 0) (aK zj zd))) zj) (zk (z3o (uj (zb 4) (yH H__law_take hr zH (aN (zb 0) (aN (zb 1) zd)))) (zb 4) (yH H__law_take hr zH (aN (zb 0) (aN (zb 1) zd))))) yj) (zf (jI (zR (z2E hu) (zC (z0z (by exact hc)) (by rfl) T.f10 kH (aN (zb 4) zd) (he:=(zr ..))) zj) (zk (z3o zj (zb 4) zj)) yj) (zk (zV (qR z2B (by rfl) T.f15 wv (aO (xw ["_law_more","_law_number"] [some 7,none] (by exact hc) (z1i (zb 4)) (fun _ _ _=>yQ (i:=1) ziQ (by rfl) (by first | exact Or.inl rfl | exact Or.inr rfl)) (xm 1 (by rfl)) (fun _ _ _=>wV) (fun _ _ _=>(zI kS (zb 1) (zb 0)))) zd) (he:=(yR ..))))))))))))))).tidy
theorem z5C (F:Fun K "_law_run" "_law_run" kf f fd) (hm:mg "_law_run"=some (.ref f)) (H__law_step:Has P w K mg base CX0 "_law_step" 1 Pg.xZ) (H__law_ended:Has P w K mg base CX0 "_law_ended" 1 Pg.yJ):Has P w K mg base CX0 "_law_run" 2 Pg.zL:= (zX F hm (F.binds (ps:=["_law_rule","_law_lot_here"]) (by trivial)) uU rfl fun cdv A outer s H E hr hc=> have hu:=hr.units;(zf (ye 2 uU.nd (z60 (aN (zb 1) zd))) (zf (ye 3 uU.nd (z60 zd)) (zf (z6I _aq (jJ (uH (yH H__law_ended hr zH (aS (uj (zb 2) (z9W zj)) zd) (he:=(qh ..))))) (zf (z6m (yH H__law_step hr zH (aN (zb 0) (aS (uj (zb 2) (z9W zj)) zd))) (z0u 4 5 hc uU.nd)) (zf (vd (jC (zb 2) (zb 4))) (zk (vd (jC (zb 3) (zb 5))))))) (zk (zV (xr (aN (zb 2) (aN (zb 3) zd)))))))))
theorem z16(F:Fun K "_law_no_rule" "_law_no_rule" vN f fd)(hm:mg "_law_no_rule"=some (.ref f))(H__law_take:Has P w K mg base CX0 "_law_take" 1 Pg.zm):Has P w K mg base CX0 "_law_no_rule" 2 Pg.xS:= (zX F hm (F.binds (ps:=["_law_pot_here","_law_rule"]) (by trivial)) qZ rfl fun cdv A outer s H E hr hc=> have hu:=hr.units;(zf (ye 2 qZ.nd (wW (aQ (zdV (zb 1)) (aB (zI zcV (zb 1) yP) (aS (zbE (zb 1) (wQ zj)) (aB (zI zcV (zb 1) yP) (aK yP (aK zcz (aK zj (aT (xr (aN (zb 1) zd)) (aL (wW (aN (zb 1) zd)) (aK z63 (qH zfM zd (by rfl)))))))))))))) (zk (zV (uj (zb 2) (yH H__law_take hr zH (aN (zb 0) (aK zj zd))))))))
theorem z25 (F:Fun K "_law_is_lot" "_law_is_lot" uq f fd) (hm:mg "_law_is_lot"=some (.ref f)) (H__law_whole:Has P w K mg base CX0 "_law_whole" 1 Pg.yK):Has P w K mg base CX0 "_law_is_lot" 2 Pg.zZ:= (zX F hm (F.binds (ps:=["_law_thing"]) (by trivial)) jM rfl fun cdv A outer s H E hr hc=> have hu:=hr.units;(zf (jI (RW.rt (zdD (jJ (uH (z6k (by decide) wv (by rfl) T.f7 (by rfl) T.f15 (zb 0)))) (z6M (zR zey (zC uD (by rfl) T.f8 wg (aN (zb 0) zd) (he:=(zr ..))) (xr (aK zj (aK zj (aK zj zd)))))))) (zk (zV z63)) yj) (zf (z5N _aq hc (z1i (zb 0)) (z2y 1 jM.nd) (zk (jI (RW.rt (zdD (jJ (uH (yH H__law_whole hr zH (aN (zb 1) zd)))) (z6M (zR zj1 (zb 1) zj)))) (zk (zV z63)) yj))) (zk (zV (qF zhr (zC (z0z (by exact hc)) (by rfl) T.f10 kH (aN (zb 0) zd) (he:=(zr ..))) zj))))))
theorem z5K (F:Fun K "_law_odd" "_law_odd" kn f fd) (hm:mg "_law_odd"=some (.ref f)) (H__law_take:Has P w K mg base CX0 "_law_take" 1 Pg.zm):Has P w K mg base CX0 "_law_odd" 2 Pg.uz:= (zX F hm (F.binds (ps:=["_law_pot_here"]) (by trivial)) z1M rfl fun cdv A outer s H E hr hc=> have hu:=hr.units;(zf (by refine ye (i:=1) (hN:=?_) (he:=?_) (hi:=?_) (hx:=?_) (hs:=?_) (hf:=?_);exact z1M.nd;exact (wW (aK zcz (aK z63 (aK z63 (aU (z9W zj) (aK zj (aK zj (aB (zI z8P zj zj) (aK yP (aK yP (aT (xr zd) (aT (xr (aK zj (aK zj zd))) (aT (xr (aK zj zd)) (aL (wW (aK zj (aK zj zd))) (qH zfM zd (by rfl))))))))))))))));rfl;(first | exact Or.inl rfl | exact Or.inr rfl);rfl;(first | exact .inl rfl | exact .inr rfl | assumption)) (zk (zV (uj (zI xj (zb 1) (wW (aT (xr (aT (xr (aK zj (aK zj zd))) (aT (xr (aK zj (aK zj zd))) zd))) (aT (xr (aK z63 (aK zj zd))) zd)))) (yH H__law_take hr zH (aN (zb 0) (aK zj zd))))))))
theorem xQ (F:Fun K "_law_same" "_law_same" vT f fd) (hm:mg "_law_same"=some (.ref f)) (H__law_whole:Has P w K mg base CX0 "_law_whole" 1 Pg.yK) (k:Nat) (Hr:Has P w K mg base CX0 "_law_same" (k+1) (Pg.zJ k)):Has P w K mg base CX0 "_law_same" (k+1+1) (Pg.zJ (k+1)):= (zX F hm (F.binds (ps:=["_law_found","_law_due"]) (by trivial)) z6j rfl fun cdv A outer s H E hr hc=> have hu:=hr.units;(zf (jI (uH (ziw (by decide) (by decide) z43 wv (by rfl) T.f7 (by rfl) T.f9 (by rfl) T.f15 (zb 1))) (zf (jI (RW.rt (zdD (zR (z7s hu) (z6k (by decide) z43 (by rfl) T.f7 (by rfl) T.f9 (zb 1)) (z6k (by decide) z43 (by rfl) T.f7 (by rfl) T.f9 (zb 0))) (z6M (zR (z7s hu) (z6k (by decide) wv (by rfl) T.f7 (by rfl) T.f15 (zb 1)) (z6k (by decide) wv (by rfl) T.f7 (by rfl) T.f15 (zb 0)))))) (zk (zV z63)) yj) (zk (zV (z5Y (qF (z2E hu) (zC uD (by rfl) T.f8 wg (aN (zb 0) zd) (he:=(zr ..))) (zC uD (by rfl) T.f8 wg (aN (zb 1) zd) (he:=(zr ..)))) (z5A (zC (zgG (by exact hc)) (by rfl) T.f3 zcO (aO (xw ["_law_one","_law_other"] [none,none] (by exact hc) (zdN (by rfl) T.f16 (aN (zb 0) (aN (zb 1) zd))) (fun _ _ _=>vZ 0 1 (by exact hc) zic) (vP 0 1 (by decide) (by rfl) (by rfl)) (fun _ _ _=>wV) (fun _ _ _=>(zb4 Hr hr zH (by rfl) (aN (zb 0) (aN (zb 1) zd))))) zd) (he:=(yR ..)))))))) yj) (zf (jI (RW.rt (zdD (zR zjL (zb 1) zcz) (zdD (uH (z6k (by decide) z27 (by rfl) T.f7 (by rfl) T.f4 (zb 1))) (z6M (uH (z6k (by decide) zdk (by rfl) T.f7 (by rfl) T.f14 (zb 1))))))) (zk (zV (z5Y (qF (z2E hu) (zb 0) (zb 1)) (z5A (qF (z2E hu) (z6k (by decide) z27 (by rfl) T.f7 (by rfl) T.f4 (zb 0)) (z6k (by decide) z27 (by rfl) T.f7 (by rfl) T.f4 (zb 1))))))) yj) (zk (zV (z5Y (zb4 H__law_whole (hr.mono (by omega)) zH (by rfl) (aN (zb 0) zd)) (z5A (qF (z2E hu) (zb 0) (zb 1)))))))))
theorem z4a(F:Fun K "_law_same" "_law_same" vT f fd)(hm:mg "_law_same"=some (.ref f))(H__law_whole:Has P w K mg base CX0 "_law_whole" 1 Pg.yK):Has P w K mg base CX0 "_law_same" 6 Pg.yM:= (xQ T F hm H__law_whole 4 (xQ T F hm H__law_whole 3 (xQ T F hm H__law_whole 2 (xQ T F hm H__law_whole 1 (xQ T F hm H__law_whole 0 ((zh9 F hm (F.binds (ps:=["_law_found","_law_due"]) (by trivial))).mono (by decide)))))))
theorem z8r (F:Fun K "is_lot" "is_lot" z2w f fd) (hm:mg "is_lot"=some (.ref f)) (H_has_size:Has P w K mg base CX0 "has_size" 1 Pg.yr) (H_are_wholes:Has P w K mg base CX0 "are_wholes" 2 Pg.yo):Has P w K mg base CX0 "is_lot" 3 Pg.zS:= (zX F hm (F.binds (ps:=["thing"]) (by trivial)) z9F rfl fun cdv A outer s H E hr hc=> have hu:=hr.units;(zf (jI (RW.rt (zdD (jJ (uH (yH H_has_size hr zH (aN (zb 0) zd)))) (z6M (jJ (uH (yH H_are_wholes hr zH (aN (zb 0) (aQ (zC uD (by rfl) T.f8 wg (aN (zb 0) zd) (he:=(zr ..))) zd)))))))) (zk (zV z63)) yj) (zk (zV (z5Y (qF ziY (zC (zd1 (by exact hc)) (by rfl) T.f11 z80 (aN (zb 0) zd) (he:=(zr ..))) zj) (z5A (qF zhr (zC (z0z (by exact hc)) (by rfl) T.f10 kH (aN (zb 0) zd) (he:=(zr ..))) zj)))))))
theorem z4V (F:Fun K "division" "division" kq f fd) (hm:mg "division"=some (.ref f)) (T_RULES:zeq P w K mg "RULES" yN) (H_by_next:Has P w K mg base CX0 "by_next" 2 Pg.wN) (H_by_least:Has P w K mg base CX0 "by_least" 2 Pg.wj) (H_by_all:Has P w K mg base CX0 "by_all" 2 Pg.vX) (H_by_turn:Has P w K mg base CX0 "by_turn" 2 Pg.wO):Has P w K mg base CX0 "division" 3 Pg.wJ:= (zX F hm (F.binds (ps:=["rule","lot"]) (by trivial)) kw rfl fun cdv A outer s H E hr hc=> have hu:=hr.units;(zf (ye 2 kw.nd (zi4 T_RULES (by rfl) (zb 0) (fun _ _=>rfl))) (zf (z6m (zeY (n:=2) 2 (kY (Has.mono H_by_next (by decide)) (kY (Has.mono H_by_least (by decide)) (kY (Has.mono H_by_all (by decide)) (kY (Has.mono H_by_turn (by decide)) zbz)))) (hr.mono (by decide)) zH (aN (zb 1) zd) (he:=(zr ..))) (z0u 3 4 hc kw.nd)) (zk (zV (xr (aN (zb 3) (aO (xw ["divided","lot","by","at"] [some 4,some 1,some 3,none] (by exact hc) (wX (by rfl) T.f12 (aQ (zC uD (by rfl) T.f8 wg (aN (zb 1) zd) (he:=(zr ..))) zd)) (fun _ _ _=>yQ (i:=3) zjS (by rfl) (by first | exact Or.inl rfl | exact Or.inr rfl)) (xm 3 (by rfl)) (fun _ _ _=>wV) (fun _ _ _=>(zjj (zR zjt (zb 3) (zb 0)) (zI zaE (uj (zb 1) (zb 3)) (uj (zb 1) (zb 2))) zj))) zd))))))))
theorem z3P (F:Fun K "_law_bent" "_law_bent" jg f fd) (hm:mg "_law_bent"=some (.ref f)) (H__law_take:Has P w K mg base CX0 "_law_take" 1 Pg.zm) (H__law_odd:Has P w K mg base CX0 "_law_odd" 2 Pg.uz):Has P w K mg base CX0 "_law_bent" 3 Pg.vE:= (zX F hm (F.binds (ps:=["_law_pot_here","_law_row"]) (by trivial)) wf rfl fun cdv A outer s H E hr hc=> have hu:=hr.units;(zf (ye 2 wf.nd (yH H__law_take hr zH (aN (zb 0) (aQ (zC uD (by rfl) T.f8 wg (aN (zb 1) zd) (he:=(zr ..))) zd)))) (zf (ye 3 wf.nd (wW (aB (zI xj (uj (zb 1) (zb 2)) zj) (aB (zI z6Q (uj (zb 1) (zb 2)) zj) (aB (zI z6Q zj (uj (zb 1) (zb 2))) (aK zj (aK z63 (aK zcz (aK yP (aT (xr (aK zj zd)) (aB (zI z8P zj zj) (aS (uj (zb 1) (zI z6Q (zb 2) zj)) zd)))))))))))) (zf (ye 3 wf.nd (uj (zb 3) (yH H__law_take hr zH (aN (zb 0) (aK zj zd))))) (zf (ye 4 wf.nd (wW (aB (zI xj (zI xj (xL (zb 1) vc (wQ (zb 2))) (xr (aN (zb 3) zd))) (xL (zb 1) (wQ (zI xj (zb 2) zj)) vc)) (aB (zI xj (zI xj (xL (zb 1) vc (wQ (zb 2))) (xr (aN (zb 3) zd))) (xL (zb 1) (wQ (zI xj (zb 2) zj)) vc)) (aB (zI xj (xL (zb 1) vc (wQ (zb 2))) (xL (zb 1) (wQ (zI xj (zb 2) zj)) vc)) (aQ (qR zg7 (by rfl) T.f9 z43 (aN (zb 1) zd) (he:=(zr ..))) zd)))))) (zf (ye 4 wf.nd (zI xj (zb 4) (wW (aB (zI xj (zI xj (xL (zb 1) vc (wQ (zb 2))) (xr (aK zj zd))) (xL (zb 1) (wQ (zb 2)) vc)) (aS (zjd (zb 1)) (aB (zI xj (zb 1) (zb 1)) (aB (zI zhf (xr (aK zj zd)) (zC uD (by rfl) T.f8 wg (aN (zb 1) zd) (he:=(zr ..)))) (aQ (yH H__law_odd hr zH (aN (zb 0) zd)) (aT (xr (aN (zb 1) zd)) zd))))))))) (zk (zV (uj (zb 4) (yH H__law_take hr zH (aN (zb 0) (aK zj zd))))))))))))
theorem z2Q (F:Fun K "_law_alike" "_law_alike" qB f fd) (hm:mg "_law_alike"=some (.ref f)) (H__law_run:Has P w K mg base CX0 "_law_run" 2 Pg.zL):Has P w K mg base CX0 "_law_alike" 3 xp:= (zX F hm (F.binds (ps:=["_law_one","_law_other","_law_lot_here"]) (by trivial)) vg rfl fun cdv A outer s H E hr hc=> have hu:=hr.units;(zf (zj0 3 4 hc vg.nd (aS (z7P (uj (yH H__law_run hr zH (aN (zb 0) (aN (zb 2) zd))) zj)) (aS (z7P (uj (yH H__law_run hr zH (aN (zb 1) (aN (zb 2) zd))) zj)) zd))) (zf (ye 5 vg.nd zj) (zf (z6I _aq (RW.rt (w_and (zR zj1 (zb 5) (zC (zdq (by exact hc)) (by rfl) T.f11 z80 (aQ (zC uD (by rfl) T.f8 wg (aN (zb 3) zd) (he:=(zr ..))) (aQ (zC uD (by rfl) T.f8 wg (aN (zb 4) zd) (he:=(zr ..))) zd)) (he:=(vB ..)))) (za7 (zR (z2E hu) (zC z3H (by rfl) T.f13 vC (aS (uj (zb 3) (zb 5)) zd) (he:=(qh ..))) (zC z3H (by rfl) T.f13 vC (aS (uj (zb 4) (zb 5)) zd) (he:=(qh ..))))))) (zk (ye 5 vg.nd (zI xj (zb 5) zj)))) (zk (zV (zb 5)))))))
theorem z4l(F:Fun K "want_lot" "want_lot" uQ f fd)(hm:mg "want_lot"=some (.ref f))(E_NoLot:zfw K mg "NoLot")(H_is_lot:Has P w K mg base CX0 "is_lot" 3 Pg.zS):Has P w K mg base (CX1 P w) "want_lot" 4 Pg.vx:= (kh F hm (F.binds (ps:=["thing"]) (by trivial)) z1C rfl fun cdv A outer s H E hr hc=> have hu:=hr.units;(zk (jI (jJ (uH (yH H_is_lot hr zgt (aN (zb 0) zd)))) (zk (z9i E_NoLot z7D hc (by rfl))) yj)))
theorem z68(F:Fun K "want_lot" "want_lot" uQ f fd)(hm:mg "want_lot"=some (.ref f))(H_is_lot:Has P w K mg base CX0 "is_lot" 3 Pg.zS):Has P w K mg base CX0 "want_lot" 4 Pg.yC:= (zX F hm (F.binds (ps:=["thing"]) (by trivial)) z1C rfl fun cdv A outer s H E hr hc=> have hu:=hr.units;(zk (jI (jJ (uH (yH H_is_lot hr zH (aN (zb 0) zd)))) (zk z6q) yj)))
theorem z4m (F:Fun K "has_ended" "has_ended" qW f fd) (hm:mg "has_ended"=some (.ref f)) (H_want_lot:Has P w K mg base CX0 "want_lot" 4 Pg.yC):Has P w K mg base CX0 "has_ended" 5 Pg.yt:= (zX F hm (F.binds (ps:=["lot"]) (by trivial)) z5Q rfl fun cdv A outer s H E hr hc=> have hu:=hr.units;(zf (vd (yH H_want_lot hr zH (aN (zb 0) zd))) (zk (zV (qF (z2E hu) (zC uD (by rfl) T.f8 wg (aO (xw ["number"] [none] (by exact hc) (z1i (zb 0)) (fun _ _ _=>yQ (i:=0) zjv (by rfl) (by first | exact Or.inl rfl | exact Or.inr rfl)) (xm 0 (by rfl)) (fun _ _ _=>ul (zR (z7s hu) (zb 0) zj)) (fun _ _ _=>(zb 0))) zd) (he:=(yR ..))) zj)))))
theorem qM(F:Fun K "want_rule_and_lot" "want_rule_and_lot" yB f fd)(hm:mg "want_rule_and_lot"=some (.ref f))(HX_want_rule:Has P w K mg base (CX1 P w) "want_rule" 2 Pg.zK)(HX_want_lot:Has P w K mg base (CX1 P w) "want_lot" 4 Pg.vx):Has P w K mg base (CX1 P w) "want_rule_and_lot" 5 Pg.zp:= (kh F hm (F.binds (ps:=["rule","lot"]) (by trivial)) vb rfl fun cdv A outer s H E hr hc=> have hu:=hr.units;(zf (vd (yH HX_want_rule hr z5M (aN (zb 0) zd))) (zk (vd (yH HX_want_lot hr z5M (aN (zb 1) zd))))))
theorem jt(F:Fun K "want_rule_and_lot" "want_rule_and_lot" yB f fd)(hm:mg "want_rule_and_lot"=some (.ref f))(H_want_rule:Has P w K mg base CX0 "want_rule" 2 Pg.wb)(H_want_lot:Has P w K mg base CX0 "want_lot" 4 Pg.yC):Has P w K mg base CX0 "want_rule_and_lot" 5 Pg.zB:= (zX F hm (F.binds (ps:=["rule","lot"]) (by trivial)) vb rfl fun cdv A outer s H E hr hc=> have hu:=hr.units;(zf (vd (yH H_want_rule hr zH (aN (zb 0) zd))) (zk (vd (yH H_want_lot hr zH (aN (zb 1) zd))))))
theorem z4Q(F:Fun K "want_step" "want_step" js f fd)(hm:mg "want_step"=some (.ref f))(H_has_ended:Has P w K mg base CX0 "has_ended" 5 Pg.yt)(H_want_rule_and_lot:Has P w K mg base CX0 "want_rule_and_lot" 5 Pg.zB):Has P w K mg base CX0 "want_step" 6 Pg.wc:= (zX F hm (F.binds (ps:=["rule","lot"]) (by trivial)) z64 rfl fun cdv A outer s H E hr hc=> have hu:=hr.units;(zf (vd (yH H_want_rule_and_lot hr zH (aN (zb 0) (aN (zb 1) zd)))) (zk (jI (uH (yH H_has_ended hr zH (aN (zb 1) zd))) (zk z6q) yj))))
theorem zcE (F:Fun K "step" "step" z6u f fd) (hm:mg "step"=some (.ref f)) (H_moved:Has P w K mg base CX0 "moved" 1 Pg.jZ) (H_division:Has P w K mg base CX0 "division" 3 Pg.wJ) (H_want_step:Has P w K mg base CX0 "want_step" 6 Pg.wc):Has P w K mg base CX0 "step" 7 Pg.M_step:= (zX F hm (F.binds (ps:=["rule","lot"]) (by trivial)) z6y rfl fun cdv A outer s H E hr hc=> have hu:=hr.units;(zf (vd (yH H_want_step hr zH (aN (zb 0) (aN (zb 1) zd)))) (zf (z6m (yH H_division hr zH (aN (zb 0) (aN (zb 1) zd))) (z0u 2 3 hc z6y.nd)) (zf (ye 4 z6y.nd (qR z2B (by rfl) T.f15 wv (aO (xw ["lot","by","number","quotient"] [some 1,some 2,none,none] (by exact hc) (zdN (by rfl) T.f16 (aN (zb 1) (aN (zb 3) zd))) (fun _ _ _=>vZ 2 3 (by exact hc) zk7) (vP 2 3 (by decide) (by rfl) (by rfl)) (fun _ _ _=>wV) (fun _ _ _=>(zI z6Q (zb 2) (zI kS (zb 3) (uj (zb 0) (zb 1)))))) zd) (he:=(yR ..)))) (zk (zV (yH H_moved hr zH (aN (zb 0) (aN (zb 4) zd)))))))))
theorem zct (F:Fun K "run" "run" zaD f fd) (hm:mg "run"=some (.ref f)) (H_has_ended:Has P w K mg base CX0 "has_ended" 5 Pg.yt) (H_step:Has P w K mg base CX0 "step" 7 Pg.M_step) (HX_want_rule_and_lot:Has P w K mg base (CX1 P w) "want_rule_and_lot" 5 Pg.zp):Has P w K mg base (CX1 P w) "run" 8 Pg.X_run:= (kh F hm (F.binds (ps:=["rule","lot"]) (by trivial)) zcT rfl fun cdv A outer s H E hr hc=> have hu:=hr.units;(zf (vd (yH HX_want_rule_and_lot hr z5M (aN (zb 0) (aN (zb 1) zd)))) (zf (z1K (ye 2 zcT.nd (z60 (aN (zb 1) zd)))) (zf (z1K (z6I _aq (jJ (uH (yH H_has_ended hr zH (aS (uj (zb 2) (z9W zj)) zd) (he:=(qh ..))))) (zk (vd (jC (zb 2) (yH H_step hr zH (aN (zb 0) (aS (uj (zb 2) (z9W zj)) zd)))))))) (zk (z1K (zV (zb 2))))))))
theorem z2m (F:Fun K "many_steps" "many_steps" qp f fd) (hm:mg "many_steps"=some (.ref f)) (HX_run:Has P w K mg base (CX1 P w) "run" 8 Pg.X_run):Has P w K mg base (CX1 P w) "many_steps" 9 Pg.zF:= (kh F hm (F.binds (ps:=["rule","lot"]) (by trivial)) z44 rfl fun cdv A outer s H E hr hc=> have hu:=hr.units;(zk (zV (zI z6Q (zC uD (by rfl) T.f8 wg (aQ (zaV (yH HX_run hr z5M (aN (zb 0) (aN (zb 1) zd)))) zd) (he:=(vB ..))) zj))))
theorem z1D (F:Fun K "common_end" "common_end" qk f fd) (hm:mg "common_end"=some (.ref f)) (HX_want_rule:Has P w K mg base (CX1 P w) "want_rule" 2 Pg.zK) (HX_run:Has P w K mg base (CX1 P w) "run" 8 Pg.X_run):Has P w K mg base (CX1 P w) "common_end" 9 zQ:= (kh F hm (F.binds (ps:=["one","other","lot"]) (by trivial)) vn rfl fun cdv A outer s H E hr hc=> have hu:=hr.units;(zf (vd (yH HX_want_rule hr z5M (aN (zb 0) zd))) (zf (vd (yH HX_want_rule hr z5M (aN (zb 1) zd))) (zf (z1K (ye 3 vn.nd zj)) (zf (z5N PassesOwn.leaving hc (zdN (by rfl) T.f16 (aS (z7P (zaV (yH HX_run hr z5M (aN (zb 0) (aN (zb 2) zd))))) (aS (z7P (zaV (yH HX_run hr z5M (aN (zb 1) (aN (zb 2) zd))))) zd))) (z0u 4 5 hc vn.nd) (zf (z1K (jI (zR (z7s hu) (zC z3H (by rfl) T.f13 vC (aN (zb 4) zd) (he:=(zr ..))) (zC z3H (by rfl) T.f13 vC (aN (zb 5) zd) (he:=(zr ..)))) (zk zeB) yj)) (zk (z1K (ziN 3 vn.nd zj))))) (zk (z1K (zV (zb 3)))))))))
theorem z4K (F:Fun K "by_steps" "by_steps" ke f fd) (hm:mg "by_steps"=some (.ref f)) (O_RULES:z8w P w K mg "RULES" (yN.map Prod.fst)) (HX_many_steps:Has P w K mg base (CX1 P w) "many_steps" 9 Pg.zF):Has P w K mg base (CX1 P w) "by_steps" 10 yV:= (kh F hm (F.binds (ps:=["lot"]) (by trivial)) z2r rfl fun cdv A outer s H E hr hc=> have hu:=hr.units;(zf (ye 1 z2r.nd (zC zaZ (by rfl) T.f13 vC (aO (zef ["lot","rule"] [some 0,none] (by exact hc) zdY (zg9 O_RULES (by rfl)) (fun _ _ _=>yQ (i:=1) zkx (by rfl) (by first | exact Or.inl rfl | exact Or.inr rfl)) (xm 1 (by rfl)) (fun _ _ _=>wV) (fun _ _ _=>(xr (aQ (yH HX_many_steps hr zj4 (aN (zb 1) (aN (zb 0) zd))) (aN (zb 1) zd))))) zd) (he:=(yR ..)))) (zk (zV (zcI ["steps","rule"] [none,none] (by exact hc) (z1i (zb 1)) (fun _ _ _=>vZ 0 1 (by exact hc) zjI) (vP 0 1 (by decide) (by rfl) (by rfl)) (fun _ _ _=>wV) (fun _ _ _=>(xr (aN (zb 1) (aN (zb 0) zd)))))))))
theorem z4k (F:Fun K "_law_told" "_law_told" qU f fd) (hm:mg "_law_told"=some (.ref f)) (KS:∀ c∈rsX,zhF K mg c "DrawError") (H__law_kind_of:zhG P w K mg base CX0 "_law_kind_of" 1 yX) (HX_many_steps:Has P w K mg base (CX1 P w) "many_steps" 9 Pg.zF) (HX_common_end:Has P w K mg base (CX1 P w) "common_end" 9 zQ) (HX_by_steps:Has P w K mg base (CX1 P w) "by_steps" 10 yV):Has P w K mg base CX0 "_law_told" 11 zn:= (zX F hm (F.binds (ps:=["_law_way","_law_one","_law_other","_law_lot_here"]) (by trivial)) z0C rfl fun cdv A outer s H E hr hc=> have hu:=hr.units;(zk (ziB rfl rfl rfl KS (by rfl) z0C.nd (by rfl) (by rfl) (fun pn xe E1 hp=>(zf (jI (zR (z2E hu) (zb 0) zj) (zk (zV (yH HX_many_steps hr hp (aN (zb 1) (aN (zb 3) zd))))) yj) (zf (jI (zR (z2E hu) (zb 0) zj) (zk (zV (yH HX_by_steps hr hp (aN (zb 3) zd)))) yj) (zk (zV (yH HX_common_end hr hp (aN (zb 1) (aN (zb 2) (aN (zb 3) zd))))))))) (fun e pn=>(zk (zV (zfc H__law_kind_of (ziL (hr.h.mono (by decide))) zH (by rfl) (aN (zb 4) zd) (he:=(zr ..)))))))))
theorem z8k (F:Fun K "law" "law" z37 f fd) (hm:mg "law"=some (.ref f)) (H__law_cell_at:Has P w K mg base CX0 "_law_cell_at" 1 Pg.yT) (H__law_pot:Has P w K mg base CX0 "_law_pot" 1 Pg.vy) (H__law_take:Has P w K mg base CX0 "_law_take" 1 Pg.zm) (H__law_rules:Has P w K mg base CX0 "_law_rules" 1 Pg.yx) (H__law_lot:Has P w K mg base CX0 "_law_lot" 2 Pg.uI) (H__law_run:Has P w K mg base CX0 "_law_run" 2 Pg.zL) (H__law_no_rule:Has P w K mg base CX0 "_law_no_rule" 2 Pg.xS) (H__law_is_lot:Has P w K mg base CX0 "_law_is_lot" 2 Pg.zZ) (H__law_same:Has P w K mg base CX0 "_law_same" 6 Pg.yM) (H__law_bent:Has P w K mg base CX0 "_law_bent" 3 Pg.vE) (H__law_alike:Has P w K mg base CX0 "_law_alike" 3 xp) (H__law_told:Has P w K mg base CX0 "_law_told" 11 zn):z47 P w K mg base CX0 12 f fd ["_law_script"] (zcZ ⟨mg,K⟩ zeT):= zgi F jR rfl fun cdv A outer s H E hr hc=> have hu:=hr.units;(zf (z5N _aq hc (wX (by rfl) T.f12 (aQ (zC (zhB (by exact hc)) (by rfl) T.f10 kH (aK zj (aQ (zC (zdq (by exact hc)) (by rfl) T.f11 z80 (aQ (zC uD (by rfl) T.f8 wg (aN (zb 0) zd) (he:=(zr ..))) (aK zj zd)) (he:=(vB ..))) zd)) (he:=(z3x ..))) zd)) (z2y 1 jR.nd) (zf (ye 2 jR.nd (yH H__law_pot hr zH (aQ (yH H__law_cell_at hr zH (aN (zb 0) (aN (zb 1) zd))) zd) (he:=(vB ..)))) (zf (ye 3 jR.nd (yH H__law_lot hr zH (aN (zb 2) zd))) (zf (z6m (xr (aS (uj (z6F H__law_rules (hr.mono (by decide)) zH (by rfl)) (yH H__law_take hr zH (aN (zb 2) (aK zj zd)))) (aS (uj (z6F H__law_rules (hr.mono (by decide)) zH (by rfl)) (yH H__law_take hr zH (aN (zb 2) (aK zj zd)))) zd))) (z0u 4 5 hc jR.nd)) (zf (ye 6 jR.nd (zC zaZ (by rfl) T.f13 vC (aO (xw ["_law_lot_here","_law_rule"] [some 3,none] (by exact hc) (z1i (z6F H__law_rules (hr.mono (by decide)) zH (by rfl))) (fun _ _ _=>yQ (i:=1) zkf (by rfl) (by first | exact Or.inl rfl | exact Or.inr rfl)) (xm 1 (by rfl)) (fun _ _ _=>wV) (fun _ _ _=>(xr (aQ (zC uD (by rfl) T.f8 wg (aS (uj (yH H__law_run hr zH (aN (zb 1) (aN (zb 0) zd))) zj) zd) (he:=(qh ..))) (aN (zb 1) zd))))) zd) (he:=(yR ..)))) (zf (z5N _aq hc (wX (by rfl) T.f12 (aK zj zd)) (z2y 7 jR.nd) (zf (ye 8 jR.nd (yH H__law_told hr zH (aK zj (aN (zb 4) (aN (zb 5) (aN (zb 3) zd)))))) (zf (jI (jJ (uH (yH H__law_same hr zH (aN (zb 8) (aO (xw ["_law_many","_law_rule"] [none,none] (by exact hc) (z1i (zb 6)) (fun _ _ _=>vZ 0 1 (by exact hc) zjG) (vP 0 1 (by decide) (by rfl) (by rfl)) (fun _ _ _=>wV) (fun _ _ _=>(xr (aN (zb 1) (aN (zb 0) zd))))) zd))))) (zk (zV z63)) yj) (zk (vd (jC (zb 8) (xr zd))))))) (zf (jI (jJ (uH (yH H__law_same hr zH (aQ (yH H__law_told hr zH (aK zj (aN (zb 4) (aN (zb 5) (aN (zb 3) zd))))) (aQ (zC uD (by rfl) T.f8 wg (aS (uj (yH H__law_run hr zH (aN (zb 4) (aN (zb 3) zd))) zj) zd) (he:=(qh ..))) zd)) (he:=(vB ..))))) (zk (zV z63)) yj) (zf (jI (jJ (uH (yH H__law_same hr zH (aQ (yH H__law_told hr zH (aK zj (aN (zb 4) (aN (zb 5) (aN (zb 3) zd))))) (aQ (yH H__law_alike hr zH (aN (zb 4) (aN (zb 5) (aN (zb 3) zd)))) zd)) (he:=(vB ..))))) (zk (zV z63)) yj) (zf (z6m (xr (aQ (yH H__law_bent hr zH (aN (zb 2) (aN (zb 3) zd))) (aQ (yH H__law_no_rule hr zH (aN (zb 2) (aN (zb 4) zd))) zd))) (z0u 9 10 hc jR.nd)) (zf (jI (RW.rt (w_and (jJ (uH (yH H__law_is_lot hr zH (aN (zb 9) zd)))) (za7 (zR (z7s hu) (xw ["_law_one","_law_other","_law_bad","_law_way"] [some 4,some 5,some 9,none] (by exact hc) (wX (by rfl) T.f12 (aK zj zd)) (fun _ _ _=>yQ (i:=3) zka (by rfl) (by first | exact Or.inl rfl | exact Or.inr rfl)) (xm 3 (by rfl)) (fun _ _ _=>wV) (fun _ _ _=>(yH H__law_told hr zH (aN (zb 3) (aN (zb 0) (aN (zb 1) (aN (zb 2) zd))))))) (zI zgS (wW (aK yP zd)) zj))))) (zk (zV z63)) yj) (zf (ye 11 jR.nd (wW (aQ (yH H__law_told hr zH (aK zj (aN (zb 10) (aN (zb 5) (aN (zb 9) zd))))) (aQ (yH H__law_told hr zH (aK zj (aN (zb 10) (aN (zb 10) (aN (zb 9) zd))))) (aQ (yH H__law_told hr zH (aK zj (aN (zb 4) (aN (zb 10) (aN (zb 9) zd))))) zd))))) (zk (jI (zR (z7s hu) (zI xj (zb 11) (wW (aQ (yH H__law_told hr zH (aK zj (aN (zb 10) (aN (zb 4) (aN (zb 3) zd))))) zd))) (zI zgS (wW (aK yP zd)) zj)) (zk (zV z63)) yj))))))))))))) (zk (zV (qF (z2E hu) (yH H__law_told hr zH (aK zj (aK yP (aK yP (aT (xr (aK zj (aK zj zd))) zd))))) zj))))
end
end K31
namespace Pr
open L2 Dd Pm Pg Pn Po
structure Sm(n m:Nat):Prop where
 pw:(m+1) ^ n<=2401
 pw1:(m+1) ^ (n-1)<=343
 one:n*m<=60
 lo:1<=m
 hi:m<=30
end Pr
namespace Pt
open L2 Dd Pm Pg Pn Po Pr
def cnt(r:Rl):Nat->List Int->Nat
 | 0,_=>0 | f+1,v=>if ended v=true then 0 else cnt r f (stp r v)+1
def nst(r:Rl)(v:List Int):Nat:=cnt r (mu r v) v
theorem z6r{n:Nat}{r:Rl}:∀ (f g:Nat)(v:List Int),Lot n v->mu r v<=f->mu r v<=g->cnt r f v=cnt r g v
 | 0,0,_,_,_,_=>rfl | 0,g+1,v,h,hf,hg=>by
  rw [cnt,cnt];by_cases e:ended v=true;·rw [_d e]
  ·have:=z9y r h (by simpa using e);omega | f+1,0,v,h,hf,hg=>by
  rw [cnt,cnt];by_cases e:ended v=true;·rw [_d e]
  ·have:=z9y r h (by simpa using e);omega | f+1,g+1,v,h,hf,hg=>by
  rw [cnt,cnt];by_cases e:ended v=true;·rw [_d e,_d e]
  ·have:=z9y r h (by simpa using e);rw [_o e,_o e,z6r f g (stp r v) (h.step r (by simpa using e)) (by omega) (by omega)]
theorem zdO{r:Rl}{v:List Int}(e:ended v=true):nst r v=0:=by
 unfold nst;cases mu r v with
 | zero=>rfl | succ k=>rw [cnt,_d e]
theorem zbk{n:Nat}{r:Rl}{v:List Int}(h:Lot n v)(e:ended v=false):nst r v=nst r (stp r v)+1:=by
 have m:=z9y r h e;have e1:nst r v=cnt r (mu r v+1) v:=z6r _ _ v h (_j _) (by omega);rw [e1,cnt,_o (by simp [e]),z6r (mu r v) (mu r (stp r v)) _ (h.step r e) (by omega) (_j _)];rfl
structure Lt(n b:Nat)(v:List Int):Prop where
 lot:Lot n v
 le:∀ x∈v,x<=(b:Int)
end Pt
namespace Pp
open L2 Dd
open Pm Pg
open Pn
end Pp
namespace Pr
open L2 Dd Pm Pg Pn Po Pp
section
variable {n m:Nat}{g:List Int}(h:Lot n g)(S:Sm n m)(hg:∀ x∈g,x<=1000)(r:Rl)
include h S
include hg
end
end Pr
namespace Pt
open L2 Dd Pm Pg Pn Po Pr Pp
end Pt
namespace Po
open L2 Dd Pm Pg Pn
theorem zgD:LeM zbn X_run:=LeM.mof (LeS.seq (LeS.drop (LeE.call z8m)) (LeS.seq LeS.calm (LeS.seq LeS.calm LeS.calm)))
section
variable {n m:Nat}{r:Rl}{v:List Int}{ls:List (List Int)}{d e:D}{c:Str}{s:Sto}
theorem x_run(r:Rl)(h:LotB n m v)(Rn:Run r v ls)(hm:m<=1999)(hl:ls.length<=50000)(s:Sto):X_run [.str (nmR r),rD v] s=.ok (.loc s.length) (s++[ls.map rD]):=zgD.ok (zi2 r h Rn hm hl s)
theorem zc4 (h:zp [d,e] s=.ex c s):X_run [d,e] s=.ex c s:=by
 have st:zq ["rule","lot","lots"] [d,e]=[some d,some e,none]:=rfl;simp only [X_run,z1h,zam,st,_i,_l,_A];rw [z3n (c:=c) (s':=s) (by rw [z7J];exact z21 (zcn (x:=d) (y:=e) (vr rfl) (vr rfl) h))]
end
theorem og0(all:List D)(s:Sto):okG [] all s:=by intro p hp;simp at hp
theorem zdQ{all:List D}{body:D->Sto->R (Option D)}{x0 x1 x2 y0 y1 y2:D}{s0 s1 s2 s3:Sto}(h0:body x0 s0=.ok (some y0) s1)(h1:body x1 s1=.ok (some y1) s2)(h2:body x2 s2=.ok (some y2) s3):wq [] all body [x0,x1,x2] [] s0=.ok [y0,y1,y2] s3:=by
 have c0:([]:List D).length<cap:=by decide
 have c1:([]++[y0]:List D).length<cap:=by show 1<cap;decide
 have c2:([]++[y0]++[y1]:List D).length<cap:=by show 2<cap;decide
 rw [wq,_d (og0 _ _),h0,Rb];simp only [_d c0];rw [wq,_d (og0 _ _),h1,Rb];simp only [_d c1];rw [wq,_d (og0 _ _),h2,Rb];simp only [_d c2];rw [wq,_d (og0 _ _)];rfl
theorem zkz(Z:Ev)(s:Sto):z2K (za (eC (.int 3)) zh) Z s=.ok ([.int 0,.int 1,.int 2],[]) s:=by simp;rfl
theorem ziC{mp:List (Option Nat)}{fe:FE}{j:Nat}{Z:Ev}{y0 y1 y2:D}{s0 s1 s2 s3:Sto}(h0:fe ((xl mp Z).set j (some (.int 0))) s0=.ok y0 s1)(h1:fe ((xl mp Z).set j (some (.int 1))) s1=.ok y1 s2)(h2:fe ((xl mp Z).set j (some (.int 2))) s2=.ok y2 s3): zT (z2K (za (eC (.int 3)) zh)) mp (vw j) wS fe Z s0=.ok (.lst [y0,y1,y2]) s3:=by
 rw [jF,jp,zkz,Rb];have b:∀ (x:D)(s s':Sto)(y:D),fe ((xl mp Z).set j (some x)) s=.ok y s'->((vw j x (xl mp Z) s).bind fun Z' s'=>(wS Z' s').bind fun b s2=>if b=true then (fe Z' s2).bind fun d s3=>.ok (some d) s3 else .ok none s2)=.ok (some y) s':=fun x s s' y e=>by
  rw [z3w,Rb];show (R.ok true s).bind _=_;rw [Rb,_d rfl,e,Rb]
 rw [zdQ (b _ _ _ _ h0) (b _ _ _ _ h1) (b _ _ _ _ h2)];rfl
theorem zga(x:Str)(Z:Ev)(s:Sto):eOp zfz (jO (za (eC (.str x)) zh)) (eC (.int 3)) Z s=.ok (.lst [.str x,.str x,.str x]) s:=by
 have c1:(1:Nat)<=cap:=by decide
 simp only [yk,z0O,zo,zG,kz,Rb,_i,_l,_ay,_d c1];rfl
theorem zcK{x:Str}(hx:PyData.strOk x=true)(s:Sto):dNe (.lst [.str x,.str x,.str x]) (.lst [.str x,.str x,.str x]) s=.ok (.bl false) s:= ne_self (k:=2) (by simp [okD,hx]) (by decide) s
theorem z1v{n m:Nat}{r:Rl}{v:List Int}{ls:List (List Int)}(h:LotB n m v)(Rn:Run r v ls):∀ a∈ls,a.length=n:=by induction Rn with
 | done e=>intro a ha;simp at ha;subst ha;exact h.len | step e R2 ih=>
  intro a ha;rcases _r.mp ha with rfl | ha;·exact h.len
  ·exact ih (h.step r e) a ha
theorem z83{n:Nat}{v:List Int}(r:Rl)(h:LotB n 104 v):∃ ls,Run r v ls/\ls.length<=50000:=by
 obtain ⟨ls,Rn,ll⟩:=zdA (r:=r) (20*104+3) v h.toLot (zhP (r:=r) h.toLot h.toN);exact ⟨ls,Rn,by omega⟩
end Po
namespace K31
open L2 Dd Pm Pg Pn Po Pt
theorem zaf{n:Nat}{r:Rl}{v:List Int}{ls:List (List Int)}(R:Run r v ls):Lot n v->ls.length=nst r v+1:=by induction R with
 | done he=>intro _;rw [zdO he];rfl | @step v ls he R ih=>intro h;rw [zbk h he,_i,ih (h.step r he)]
theorem z6H{n:Nat}{v:List Int}{r:Rl}{ls:List (List Int)}(h:LotB n 104 v)(Rn:Run r v ls)(hl:ls.length<=50000){f g:FE}{Z:Ev}{s:Sto}(hf:f Z s=.ok (.str (nmR r)) s)(hg:g Z s=.ok (rD v) s):z46 (ze X_run (za f (za g zh))) Z s=.ok (.lst (ls.map rD)) s:=by rw [z9k,call2 hf hg,x_run r h Rn (by decide) hl s,zcC]
theorem zdH{d e:D}{c:Str}{f g:FE}{Z:Ev}{s:Sto}(hf:f Z s=.ok d s)(hg:g Z s=.ok e s)(h:zp [d,e] s=.ex c s):z46 (ze X_run (za f (za g zh))) Z s=.ex c s:=by
 rw [z9k,call2 hf hg,zc4 h];rfl
theorem zdB {n:Nat} {v:List Int} (r:Rl) (h:LotB n 104 v) (s:Sto):zF [.str (nmR r),rD v] s=.ok (.int (nst r v)) s:=by
 obtain ⟨ls,Rn,hl⟩:=z83 r h;have ll:=zaf Rn h.toLot;have fz:=z6H (f:=zc 0) (g:=zc 1) (Z:=[some (.str (nmR r)),some (rD v)]) (s:=s) h Rn hl rfl rfl;have key:∀ (d e:D) (xs:List D),xs.length=nst r v+1->z46 (ze X_run (za (zc 0) (za (zc 1) zh))) [some d,some e] s=.ok (.lst xs) s->zF [d,e] s=.ok (.int (nst r v)) s:=fun d e xs hx hz=>by
  have st:zq ["rule","lot"] [d,e]=[some d,some e]:=rfl;simp only [zF,z1h,uk,st,_i,_l,_A];rw [vL,yI,op2 (x:=.int xs.length) (y:=.int 1) (by rw [xu (x:=.lst xs) hz];rfl) rfl,zcP,show (xs.length:Int)-1=(nst r v:Int) by omega];rfl
 exact key _ _ _ (by simpa using ll) fz
theorem z1R {d e:D} {c:Str} {s:Sto} (h:zp [d,e] s=.ex c s):zF [d,e] s=.ex c s:=by
 have st:zq ["rule","lot"] [d,e]=[some d,some e]:=rfl;have z:=zdH (f:=zc 0) (g:=zc 1) (Z:=[some d,some e]) (s:=s) rfl rfl h;simp only [zF,z1h,uk,st,_i,_l,_A];rw [vL,yI,yk,yf,zo,z];rfl
abbrev pr(v:List Int)(r:Rl):Int×Str:=((nst r v:Int),nmR r)
abbrev pS(v:List Int)(r:Rl):D:=.tup [.int (nst r v),.str (nmR r)]
theorem zet{a b c:Int×Str}(h1:xk a b=true)(h2:xk b c=true):xk a c=true:=by
 unfold xk at *;by_cases e1:a.1=b.1
 ·rw [_d e1] at h1;by_cases e2:b.1=c.1
  ·rw [_d e2] at h2;rw [_d (e1.trans e2)];split at h1;·cases h1
   ·split at h2;·cases h2
    ·simp only [_aU] at h1 h2;have t:=List.lt_trans h1 h2;rw [_o (fun z=>by rw [z] at t;exact List.lt_irrefl _ t)];simpa using t
  ·rw [_o e2] at h2;rw [_o (by omega),e1];exact h2
 ·rw [_o e1] at h1;simp only [_aU] at h1;by_cases e2:b.1=c.1
  ·rw [_o (by omega),<- e2];simpa using h1
  ·rw [_o e2] at h2;simp only [_aU] at h2;rw [_o (by omega)];simp only [_aU];omega
theorem z7A(v:List Int){a b:Rl}(h:a≠b):xk (pr v b) (pr v a)=!xk (pr v a) (pr v b):=by
 have key:∀ (x y:Int)(a b:Rl),a≠b->xk (y,nmR b) (x,nmR a)=!xk (x,nmR a) (y,nmR b):=fun x y a b h=>by
  have c:(if nmR b=nmR a then false else decide ((nmR b).cps.toList<(nmR a).cps.toList))=!(if nmR a=nmR b then false else decide ((nmR a).cps.toList<(nmR b).cps.toList)):=by
   revert h;cases a<;>cases b<;>decide +kernel
  simp only [xk];by_cases e:x=y;·rw [_d e,_d e.symm,c]
  ·rw [_o e,_o (_aE e)];by_cases q:x<y;·simp [q];omega
   ·simp [q];omega
 exact key _ _ a b h
theorem z7u(v:List Int):∀ L:List Rl,qP (L.map (pS v))=some (L.map (pr v))
 | []=>rfl | r::L=>by simp only [_w,pS,qP,z7u v L,_T]
theorem z7F (v:List Int) {L:List Rl} (nd:L.Nodup) (h2:2<=L.length) (h64:L.length<64) (s:Sto):∃ G:List Rl,z3h [.lst (L.map (pS v))] s=.ok (.lst (G.map (pS v))) s/\G.Pairwise (fun a b=>xk (pr v a) (pr v b)=true)/\G.Perm L:=by
 have gd:∀ i,i<L.length->(L.map (pr v)).getD i (0,"")=pr v (L.getD i .nx):=fun i hi=>by simp [_s,hi]
 obtain ⟨p,e,pm,pw⟩:=zbC (N:=L.length) (lt:=fun i j=>xk ((L.map (pr v)).getD i (0,"")) ((L.map (pr v)).getD j (0,""))) (fun i j hi hj hij=>by
  rw [gd i hi,gd j hj];refine z7A v fun z=>hij ?_;simp only [_s,_f hi,_f hj,_aH] at z;exact (_aG nd).mp z) (fun i j k=>zet) (by omega);have mem:∀ i,i∈p.toList->i<L.length:=fun i hi=>by rw [pm.mem_iff,_az] at hi;exact hi
 refine ⟨p.toList.map fun i=>L.getD i .nx,?_,?_,?_⟩
 ·simp only [z3h,Dd.listOf,z7u,_J];rw [_d ⟨h2,h64⟩,e];simp only;rw [_d ⟨by rw [_L];intro i hi;simpa using mem i hi,by have:=pm.length_eq;simpa using this⟩,_bg];congr 2;refine _bm fun i hi=>?_;simp [_s,mem i hi]
 ·rw [List.pairwise_map];refine pw.imp_of_mem fun {i j} hi hj q=>?_;rw [gd i (mem i hi),gd j (mem j hj)] at q;exact q
 ·have:=pm.map (fun i=>L.getD i .nx);have er:(List.range L.length).map (fun i=>L.getD i .nx)=L:=by
   apply _aI;·simp
   ·intro i h1 h2;simp [_s,h2]
  rwa [er] at this
theorem zeX{v:List Int}{G G':List Rl}(p:G.Perm G')(h:G.Pairwise (fun a b=>xk (pr v a) (pr v b)=true))(h':G'.Pairwise (fun a b=>xk (pr v a) (pr v b)=true)):G=G':=by
 refine List.Perm.eq_of_pairwise (fun a b _ _ h1 h2=>?_) h h' p;refine _ah fun z=>?_;have:=z7A v z;rw [h1,h2] at this;cases this
def zfj:List Rl:=[.nx,.le,.al,.tu]
theorem zcw:zfj.Perm rls:=by decide +kernel
theorem zg4:yN.map Prod.fst=zfj.map nmR:=by decide +kernel
abbrev qS(v:List Int)(r:Rl):D:=.tup [.str (nmR r),.int (nst r v)]
theorem zaQ(v:List Int):∀ G:List Rl,D.flat.flats (G.map (qS v))=true
 | []=>rfl | r::G=>by
  have:=zaQ v G;simp only [_w,D.flat.flats,this,Bool.and_true];rfl
theorem zjH {n:Nat} {v:List Int} (h:LotB n 104 v) (s:Sto):∃ G:List Rl,G.Pairwise (fun a b=>xk (pr v a) (pr v b)=true)/\G.Perm zfj/\yV [rD v] s=.ok (.loc s.length) (s++[G.map (qS v)]):=by
 obtain ⟨G,e,pw,pm⟩:=z7F v (L:=zfj) (by decide) (by decide) (by decide) s;refine ⟨G,pw,pm,?_⟩;have gl:G.length=4:=pm.length_eq;have key:∀ d:D,(∀ r,zF [.str (nmR r),d] s=.ok (.int (nst r v)) s)->yV [d] s=.ok (.loc s.length) (s++[G.map (qS v)]):=fun d hm=>by
  have c:=comp_map (s:=s) (Z:=[some d,none]) (fi:=z8t (yN.map Prod.fst)) (mp:=[some 0,none]) (fg:=vw 1) (fe:=wT (za (ze zF (za (zc 1) (za (zc 0) zh))) (za (zc 1) zh))) (fun r=>D.str (nmR r)) (pS v) (fun r=>[some d,some (.str (nmR r))]) zfj (by rw [z9p,zg4,_bg];rfl) (fun r _=>rfl) (fun r _=>by
    rw [uC,zo,call2 (x:=.str (nmR r)) (y:=d) (vr rfl) (vr rfl),hm r,Rb,zo,vr (d:=.str (nmR r)) rfl,Rb,zG];simp [cap]) (by decide);have st:zq ["lot","found"] [d]=[some d,none]:=rfl;have f1:ww [some d,none] s=.ok (.nx [some d,some (.lst (G.map (pS v)))]) s:=by
   rw [ww,zW,xu c,e];rfl
  have f2:qg [some d,some (.lst (G.map (pS v)))] s=.ok (.rt (.loc s.length)) (s++[G.map (qS v)]):=by
   have fl:=zaQ v G;have lc:wq [] (G.map (pS v)) (fun d s=>(wz 0 1 d (xl [none,none] [some d,some (.lst (G.map (pS v)))]) s).bind fun Z' s'=>(wS Z' s').bind fun b s2=>if b=true then (wT (za (zc 1) (za (zc 0) zh)) Z' s2).bind fun d s3=>.ok (some d) s3 else .ok none s2) (G.map (pS v)) [] s=.ok ([]++G.map (qS v)) s:=by
    refine z7j (by intro p hp;simp at hp) (pS v) (qS v) G [] (fun r _=>?_) (by simp [gl,cap]);rfl
   rw [qg,yI,kL,jp,kN (vr rfl),Rb];have lc':=lc;simp only [_ao] at lc';first
    | rw [lc'] | erw [lc']
   rw [Rb,_d fl];rfl
  simp only [yV,z1h,jo,st,_i,_l,_A];rw [zi f1,f2]
 exact key _ fun r=>zdB r h s
theorem zfi {d:D} {c:Str} {s:Sto} (h:zp [.str (nmR .nx),d] s=.ex c s):yV [d] s=.ex c s:=by
 have st:zq ["lot","found"] [d]=[some d,none]:=rfl;have m:=z1R h;have og:okG [] ((yN.map Prod.fst).map D.str) s:=by intro p hp;simp at hp
 have cx:zT (z8t (yN.map Prod.fst)) [some 0,none] (vw 1) wS (wT (za (ze zF (za (zc 1) (za (zc 0) zh))) (za (zc 1) zh))) [some d,none] s=.ex c s:=by
  have ks:(yN.map Prod.fst).map D.str=.str (nmR .nx)::(zfj.drop 1).map fun r=>D.str (nmR r):=by rw [zg4];rfl
  have b:wT (za (ze zF (za (zc 1) (za (zc 0) zh))) (za (zc 1) zh)) [some d,some (.str (nmR .nx))] s=.ex c s:=by
   rw [uC,zo,call2 (x:=.str (nmR .nx)) (y:=d) (vr rfl) (vr rfl),m];rfl
  rw [jF,jp,z9p,Rb];simp only;rw [ks,wq,_d (by intro p hp;simp at hp)];show ((((wT (za (ze zF (za (zc 1) (za (zc 0) zh))) (za (zc 1) zh)) [some d,some (.str (nmR .nx))] s).bind fun d s3=>R.ok (some d) s3).bind _).bind _)=_;rw [b];rfl
 have f1:ww [some d,none] s=.ex c s:=by
  rw [ww,zW,yf,zo,cx];rfl
 simp only [yV,z1h,jo,st,_i,_l,_A];rw [z3n f1]
def cp:List (List Int)->List (List Int)->Nat
 | a::A,b::B=>if wC a=wC b then cp A B+1 else 0 | _,_=>0
theorem zdd:∀ v:List Int,z5l (iL v)=some v
 | []=>rfl | x::v=>by
  have:=zdd v;simp only [iL] at this;simp [z5l,this]
theorem sT{v:List Int}(h:v.length<=4)(s:Sto):uc [rD v] s=.ok (.lst (iL (wC v))) s:=by
 simp only [uc,zdd];rw [_d (by omega)]
theorem z0c(a:List Int):okD 1 (.lst (iL a))=true:=by
 have:=zgV 0 a;simpa [okD] using this
theorem zhj(a b:List Int)(s:Sto):dEq (.lst (iL a)) (.lst (iL b)) s=.ok (.bl (decide (a=b))) s:=by
 have e:eqD (.lst (iL a)) (.lst (iL b))=decide (a=b):=by
  have:=z4L a b;simp only [eqD,vO,PyData.eqv,this]
 rw [dEq,_d ⟨z35 (k:=1) (z0c a) (by decide),z35 (k:=1) (z0c b) (by decide)⟩,e]
theorem zgr(a b:List Int)(s:Sto):dNe (.lst (iL a)) (.lst (iL b)) s=.ok (.bl (!decide (a=b))) s:=by
 have e:eqD (.lst (iL a)) (.lst (iL b))=decide (a=b):=by
  have:=z4L a b;simp only [eqD,vO,PyData.eqv,this]
 rw [dNe,_d ⟨z35 (k:=1) (z0c a) (by decide),z35 (k:=1) (z0c b) (by decide)⟩,e]
abbrev ze4:D->Ev->Sto->R Fl:=fun d Z s=>(wz 4 5 d Z s).bind fun Z' s'=>(zy (ur yq) (ur yY)) Z' s'
theorem zab {all:List D} {s:Sto} {a0 a1 a2:Option D}:∀ (A B:List (List Int)) (k:Int) (a4 a5:Option D),(∀ a∈A,a.length<=4)->(∀ b∈B,b.length<=4)-> ∃ b4 b5,xG [] all ze4 (z1s (A.map rD) (B.map rD)) [a0,a1,a2,some (.int k),a4,a5] s=.ok (.nx [a0,a1,a2,some (.int (k+(cp A B:Int))),b4,b5]) s
 | [],B,k,a4,a5,_,_=>⟨a4,a5,by simp [z1s,xG,okG,cp]⟩ | a::A,[],k,a4,a5,_,_=>⟨a4,a5,by simp [z1s,xG,okG,cp]⟩ | a::A,b::B,k,a4,a5,hA,hB=>by
  have og:okG [] all s:=by intro p hp;simp at hp
  have sa:=sT (hA a (.head _)) s;have sb:=sT (hB b (.head _)) s;have ne:=zgr (wC a) (wC b) s;obtain ⟨b4,b5,ih⟩:=zab (all:=all) (s:=s) (a0:=a0) (a1:=a1) (a2:=a2) A B (k+1) (some (rD a)) (some (rD b)) (fun x hx=>hA x (.tail _ hx)) (fun x hx=>hB x (.tail _ hx));have tst:tOf (eOp dNe (ze uc (za (zc 4) zh)) (ze uc (za (zc 5) zh))) [a0,a1,a2,some (.int k),some (rD a),some (rD b)] s=.ok (!decide (wC a=wC b)) s:=z4g (by
   generalize rD a=x at *;generalize rD b=y at *;rw [op2 (x:=.lst (iL (wC a))) (y:=.lst (iL (wC b))) (by rw [xu (x:=x) (vr rfl),sa]) (by rw [xu (x:=y) (vr rfl),sb]),ne]);by_cases e:wC a=wC b
  ·refine ⟨b4,b5,?_⟩;have f5:ur yq [a0,a1,a2,some (.int k),some (rD a),some (rD b)] s=.ok (.nx [a0,a1,a2,some (.int k),some (rD a),some (rD b)]) s:=by
    rw [z0l,yq,zbi (by rw [tst];simp [e])];rfl
   have f7:ur yY [a0,a1,a2,some (.int k),some (rD a),some (rD b)] s=.ok (.nx [a0,a1,a2,some (.int (k+1)),some (rD a),some (rD b)]) s:=by
    rw [z0l,yY,zgu (a:=k) (b:=1) (s1:=s) rfl rfl];rfl
   rw [cp,_d e,show k+((cp A B+1:Nat):Int)=k+1+(cp A B:Int) by omega,_w,_w,z1s,xG,_d og];rw [show ze4 (.tup [rD a,rD b]) [a0,a1,a2,some (.int k),a4,a5] s=(zy (ur yq) (ur yY)) [a0,a1,a2,some (.int k),some (rD a),some (rD b)] s from rfl,zi f5,f7,Rb];exact ih
  ·refine ⟨some (rD a),some (rD b),?_⟩;have f5:ur yq [a0,a1,a2,some (.int k),some (rD a),some (rD b)] s=.ok (.bk [a0,a1,a2,some (.int k),some (rD a),some (rD b)]) s:=by
    rw [z0l,yq,z4i (by rw [tst];simp [e])];rfl
   rw [cp,_o e,_w,_w,z1s,xG,_d og];rw [show ze4 (.tup [rD a,rD b]) [a0,a1,a2,some (.int k),a4,a5] s=(zy (ur yq) (ur yY)) [a0,a1,a2,some (.int k),some (rD a),some (rD b)] s from rfl,z4Y,f5];simp
theorem zcb{ls:List (List Int)}{f:FE}{Z:Ev}{s s1:Sto}{d:D}(hf:f Z s=.ok d s1)(hd:Dd.listOf s1 d=some (ls.map rD)):z5O f Z s=.ok (.lst (ls.reverse.map rD)) s1:=by
 rw [z9z,hf,Rb,hd];simp
theorem zkj {n:Nat} {v:List Int} {r q:Rl} {A B:List (List Int)} (h:LotB n 104 v) (RA:Run r v A) (RB:Run q v B) (hA:A.length<=50000) (hB:B.length<=50000) (s:Sto):zQ [.str (nmR r),.str (nmR q),rD v] s=.ok (.int (cp A.reverse B.reverse)) s:=by
 have n4:=h.toLot.le4;have lA:=z1v h RA;have lB:=z1v h RB;have ln:=h.toLot.len;obtain ⟨b4,b5,lp⟩:=zab (all:=z1s (A.reverse.map rD) (B.reverse.map rD)) (s:=s) (a0:=some (.str (nmR r))) (a1:=some (.str (nmR q))) (a2:=some (rD v)) A.reverse B.reverse 0 none none (fun a ha=>by have:=lA a (_bh.mp ha);omega) (fun b hb=>by have:=lB b (_bh.mp hb);omega);rw [Int.zero_add] at lp;have w1:=xx.ok (wa r s);have w2:=xx.ok (wa q s);have i1:=zcb (ls:=A) (z6H (f:=zc 0) (g:=zc 2) (Z:=[some (.str (nmR r)),some (.str (nmR q)),some (rD v),some (.int 0),none,none]) (s:=s) h RA hA rfl rfl) rfl;have i2:=zcb (ls:=B) (z6H (f:=zc 1) (g:=zc 2) (Z:=[some (.str (nmR r)),some (.str (nmR q)),some (rD v),some (.int 0),none,none]) (s:=s) h RB hB rfl rfl) rfl;have f4:xz [some (.str (nmR r)),some (.str (nmR q)),some (rD v),some (.int 0),none,none] s=.ok (.nx [some (.str (nmR r)),some (.str (nmR q)),some (rD v),some (.int (cp A.reverse B.reverse)),b4,b5]) s:=by
  rw [xz,z11,za0,zo,i1,Rb,zo,i2,Rb,zG];exact lp
 have key:∀ (d e f:D),zK [d] s=.ok .non s->zK [e] s=.ok .non s->xz [some d,some e,some f,some (.int 0),none,none] s=.ok (.nx [some d,some e,some f,some (.int (cp A.reverse B.reverse)),b4,b5]) s->zQ [d,e,f] s=.ok (.int (cp A.reverse B.reverse)) s:=fun d e f h1 h2 h3=>by
  have st:zq ["one","other","lot","many","left","right"] [d,e,f]=[some d,some e,some f,none,none,none]:=rfl;simp only [zQ,z1h,xU,st,_i,_l,_A];rw [zi (Z':=[some d,some e,some f,none,none,none]) (s':=s) (by rw [xB,wI,xu (x:=d) (vr rfl),h1];rfl)];rw [zi (Z':=[some d,some e,some f,none,none,none]) (s':=s) (by rw [wA,wI,xu (x:=e) (vr rfl),h2];rfl)];rw [zi (Z':=[some d,some e,some f,some (.int 0),none,none]) (s':=s) (by rw [z0l];rfl),zi h3];rfl
 exact key _ _ _ w1 w2 f4
section
variable {d e f:D}{s:Sto}
theorem zfS (h:zK [d] s=.ex "NoRule" s):zQ [d,e,f] s=.ex "NoRule" s:=by
 have st:zq ["one","other","lot","many","left","right"] [d,e,f]=[some d,some e,some f,none,none,none]:=rfl;simp only [zQ,z1h,xU,st,_i,_l,_A];rw [z3n (c:="NoRule") (s':=s) (by rw [xB];exact z21 (by rw [xu (x:=d) (vr rfl),h]))]
theorem zbR (h0:zK [d] s=.ok .non s) (h:zK [e] s=.ex "NoRule" s):zQ [d,e,f] s=.ex "NoRule" s:=by
 have st:zq ["one","other","lot","many","left","right"] [d,e,f]=[some d,some e,some f,none,none,none]:=rfl;simp only [zQ,z1h,xU,st,_i,_l,_A];rw [zi (Z':=[some d,some e,some f,none,none,none]) (s':=s) (by rw [xB,wI,xu (x:=d) (vr rfl),h0];rfl)];rw [z3n (c:="NoRule") (s':=s) (by rw [wA];exact z21 (by rw [xu (x:=e) (vr rfl),h]))]
theorem zhg {c:Str} (h0:zK [d] s=.ok .non s) (h1:zK [e] s=.ok .non s) (h:zp [d,f] s=.ex c s):zQ [d,e,f] s=.ex c s:=by
 have st:zq ["one","other","lot","many","left","right"] [d,e,f]=[some d,some e,some f,none,none,none]:=rfl;have z:=zdH (f:=zc 0) (g:=zc 2) (Z:=[some d,some e,some f,some (.int 0),none,none]) (s:=s) rfl rfl h;simp only [zQ,z1h,xU,st,_i,_l,_A];rw [zi (Z':=[some d,some e,some f,none,none,none]) (s':=s) (by rw [xB,wI,xu (x:=d) (vr rfl),h0];rfl)];rw [zi (Z':=[some d,some e,some f,none,none,none]) (s':=s) (by rw [wA,wI,xu (x:=e) (vr rfl),h1];rfl)];rw [zi (Z':=[some d,some e,some f,some (.int 0),none,none]) (s':=s) (by rw [z0l];rfl)];rw [z3n (c:=c) (s':=s) (by rw [xz,z11,za0,zo,z9z,z];rfl)]
end
abbrev zhK:FT:=zbL (tOf (eOp dLt (zc 5) (ze z4J (za (ze xi (za (zc 3) zh)) (za (ze xi (za (zc 4) zh)) zh))))) (tOf (eOp dEq (ze uc (za (eOp dIx (zc 3) (zc 5)) zh)) (ze uc (za (eOp dIx (zc 4) (zc 5)) zh))))
theorem zf9 {A B:List (List Int)} (hA:∀ a∈A,a.length<=4) (hB:∀ b∈B,b.length<=4) {S:Sto} {a0 a1 a2:Option D}:∀ (m k:Nat),min A.length B.length<=k+m-> wB zhK xP (m+1) [a0,a1,a2,some (.lst (A.map rD)),some (.lst (B.map rD)),some (.int k)] S=.ok (.nx [a0,a1,a2,some (.lst (A.map rD)),some (.lst (B.map rD)),some (.int ((k+cp (A.drop k) (B.drop k):Nat):Int))]) S:=by
 have lt:∀ k:Nat,tOf (eOp dLt (zc 5) (ze z4J (za (ze xi (za (zc 3) zh)) (za (ze xi (za (zc 4) zh)) zh)))) [a0,a1,a2,some (.lst (A.map rD)),some (.lst (B.map rD)),some (.int ((k:Nat):Int))] S=.ok (decide (k<min A.length B.length)) S:=fun k=>z4g (by
  have gm:ze z4J (za (ze xi (za (zc 3) zh)) (za (ze xi (za (zc 4) zh)) zh)) [a0,a1,a2,some (.lst (A.map rD)),some (.lst (B.map rD)),some (.int k)] S=.ok (.int (min A.length B.length)) S:=by
   have g1:xi [.lst (A.map rD)] S=.ok (.int A.length) S:=by simp [xi,zO]
   have g2:xi [.lst (B.map rD)] S=.ok (.int B.length) S:=by simp [xi,zO]
   generalize A.map rD=X at *;generalize B.map rD=Yy at *;rw [call2 (x:=.int A.length) (y:=.int B.length) (by rw [xu (x:=.lst X) (vr rfl),g1]) (by rw [xu (x:=.lst Yy) (vr rfl),g2])];simp only [z4J];congr 2;split<;>omega
  rw [op2 (x:=.int ((k:Nat):Int)) (y:=.int (min A.length B.length)) (vr rfl) gm,zi5,show decide (((k:Nat):Int)<(min A.length B.length:Int))=decide (k<min A.length B.length) from decide_eq_decide.mpr (by omega)]);have stop:∀ k,¬ k<min A.length B.length->cp (A.drop k) (B.drop k)=0:=fun k hk=>by
  by_cases q:A.length<=k;·rw [List.drop_eq_nil_of_le q];rfl
  ·rw [List.drop_eq_nil_of_le (show B.length<=k by omega)];cases A.drop k<;>rfl
 have no:∀ k,¬ k<min A.length B.length->zhK [a0,a1,a2,some (.lst (A.map rD)),some (.lst (B.map rD)),some (.int ((k:Nat):Int))] S=.ok false S:=fun k q=>by
  show zbL _ _ _ _=_;rw [z6c,lt k,_ae q];rfl
 intro m;induction m with
 | zero=>
  intro k hk;have q:¬ k<min A.length B.length:=by omega
  rw [wB,no k q,Rb,stop k q];rfl | succ m ih=>
  intro k hk;by_cases q:k<min A.length B.length
  ·have ka:k<A.length:=by omega
   have kb:k<B.length:=by omega
   have sa:=sT (hA _ (_V ka)) S;have sb:=sT (hB _ (_V kb)) S;have ia:dIx (.lst (A.map rD)) (.int k) S=.ok (rD A[k]) S:=va (by omega) (by simp [ka]);have ib:dIx (.lst (B.map rD)) (.int k) S=.ok (rD B[k]) S:=va (by omega) (by simp [kb]);have eq:=zhj (wC A[k]) (wC B[k]) S;have da:A.drop k=A[k]::A.drop (k+1):=_av ka;have db:B.drop k=B[k]::B.drop (k+1):=_av kb;have ih:=ih (k+1) (by omega);have t2:tOf (eOp dEq (ze uc (za (eOp dIx (zc 3) (zc 5)) zh)) (ze uc (za (eOp dIx (zc 4) (zc 5)) zh))) [a0,a1,a2,some (.lst (A.map rD)),some (.lst (B.map rD)),some (.int k)] S=.ok (decide (wC A[k]=wC B[k])) S:=z4g (by
    generalize A.map rD=X at *;generalize B.map rD=Yy at *;rw [op2 (x:=.lst (iL (wC A[k]))) (y:=.lst (iL (wC B[k]))) (by rw [xu (x:=rD A[k]) (by rw [op2 (x:=.lst X) (y:=.int k) (vr rfl) (vr rfl),ia]),sa]) (by rw [xu (x:=rD B[k]) (by rw [op2 (x:=.lst Yy) (y:=.int k) (vr rfl) (vr rfl),ib]),sb]),eq]);have yes:zhK [a0,a1,a2,some (.lst (A.map rD)),some (.lst (B.map rD)),some (.int k)] S=.ok (decide (wC A[k]=wC B[k])) S:=by
    show zbL _ _ _ _=_;rw [z6c,lt k,_bF q,Rb,_d rfl,t2]
   rw [wB,yes,Rb,da,db,cp];by_cases e:wC A[k]=wC B[k]
   ·rw [_d e,_bF e,_d rfl,show k+(cp (A.drop (k+1)) (B.drop (k+1))+1)=k+1+cp (A.drop (k+1)) (B.drop (k+1)) by omega];have f4:xP [a0,a1,a2,some (.lst (A.map rD)),some (.lst (B.map rD)),some (.int k)] S=.ok (.nx [a0,a1,a2,some (.lst (A.map rD)),some (.lst (B.map rD)),some (.int ((k+1:Nat):Int))]) S:=by
     rw [xP,zW,op2 (x:=.int k) (y:=.int 1) (vr rfl) rfl,zdb];rfl
    rw [f4,Rb];exact ih
   ·rw [_o e,_ae e,_o (by decide)];rfl
  ·rw [wB,no k q,Rb,stop k q];rfl
theorem zem {n:Nat} {v:List Int} {r q:Rl} {A B:List (List Int)} (h:LotB n 104 v) (RA:Run r v A) (RB:Run q v B) (hA:A.length<=50000) (hB:B.length<=50000) (s:Sto):∃ t,xp [.str (nmR r),.str (nmR q),rD v] s=.ok (.int (cp A.reverse B.reverse)) (s++t):=by
 have n4:=h.toLot.le4;have lA:=z1v h RA;have lB:=z1v h RB;have ln:=h.toLot.len;have r1:=zba r h RA (by decide) hA s;have r2:=zba q h RB (by decide) hB (s++[A.map rD,(zU r A).map tD]);refine ⟨[A.map rD,(zU r A).map tD]++[B.map rD,(zU q B).map tD],?_⟩;have g1:(s++[A.map rD,(zU r A).map tD])[s.length]? = some (A.map rD):=z0e.1;have g2:((s++[A.map rD,(zU r A).map tD])++[B.map rD,(zU q B).map tD])[(s++[A.map rD,(zU r A).map tD]).length]? = some (B.map rD):=z0e.1;rw [<- _aC];have lp:=zf9 (A:=A.reverse) (B:=B.reverse) (fun a ha=>by have:=lA a (_bh.mp ha);omega) (fun b hb=>by have:=lB b (_bh.mp hb);omega) (S:=(s++[A.map rD,(zU r A).map tD])++[B.map rD,(zU q B).map tD]) (a0:=some (.str (nmR r))) (a1:=some (.str (nmR q))) (a2:=some (rD v)) 50000 0 (by simp;omega);rw [List.drop_zero,List.drop_zero,_ay] at lp;have key:∀ (d e f:D),zL [d,f] s=.ok (.tup [.loc s.length,.loc (s.length+1)]) (s++[A.map rD,(zU r A).map tD])->zL [e,f] (s++[A.map rD,(zU r A).map tD])=.ok (.tup [.loc (s++[A.map rD,(zU r A).map tD]).length,.loc ((s++[A.map rD,(zU r A).map tD]).length+1)]) ((s++[A.map rD,(zU r A).map tD])++[B.map rD,(zU q B).map tD])-> wB zhK xP 50001 [some d,some e,some f,some (.lst (A.reverse.map rD)),some (.lst (B.reverse.map rD)),some (.int ((0:Nat):Int))] ((s++[A.map rD,(zU r A).map tD])++[B.map rD,(zU q B).map tD])=.ok (.nx [some d,some e,some f,some (.lst (A.reverse.map rD)),some (.lst (B.reverse.map rD)),some (.int (cp A.reverse B.reverse))]) ((s++[A.map rD,(zU r A).map tD])++[B.map rD,(zU q B).map tD])-> xp [d,e,f] s=.ok (.int (cp A.reverse B.reverse)) ((s++[A.map rD,(zU r A).map tD])++[B.map rD,(zU q B).map tD]):=fun d e f h1 h2 h3=>by
  have st:zq ["_law_one","_law_other","_law_lot_here","_law_mine","_law_own","_law_found"] [d,e,f]=[some d,some e,some f,none,none,none]:=rfl;have f1:uw [some d,some e,some f,none,none,none] s=.ok (.nx [some d,some e,some f,some (.lst (A.reverse.map rD)),some (.lst (B.reverse.map rD)),none]) ((s++[A.map rD,(zU r A).map tD])++[B.map rD,(zU q B).map tD]):=by
   rw [uw,zfZ,zo,zcb (ls:=A) (d:=.loc s.length) (by rw [yk,call2 (x:=d) (y:=f) (vr rfl) (vr rfl),h1,Rb,kz,Rb];rfl) (by simp only [Dd.listOf,g1]),Rb,zo,zcb (ls:=B) (d:=.loc (s++[A.map rD,(zU r A).map tD]).length) (by rw [yk,call2 (x:=e) (y:=f) (vr rfl) (vr rfl),h2,Rb,kz,Rb];rfl) (by simp only [Dd.listOf,g2]),Rb,zG];rfl
  simp only [xp,Mof,kK,st,_i,_l,_A];rw [zi f1,zi (Z':=[some d,some e,some f,some (.lst (A.reverse.map rD)),some (.lst (B.reverse.map rD)),some (.int ((0:Nat):Int))]) rfl,zi (by rw [jK];exact z4y h3 (by simp))];rfl
 exact key _ _ _ r1 r2 lp
end K31
namespace Pr
open L2 Dd Pm Pg Pn Po Pp
section
variable {n m:Nat}{g:List Int}(h:Lot n g)(S:Sm n m)(hg:∀ x∈g,x<=1000)(r:Rl)
include h S
include hg
end
end Pr
namespace Pp
open L2 Dd Pm Pg Pn
end Pp
namespace Pr
open L2 Dd Pm Pg Pn Po Pp
theorem m_many(n:Nat)(b:Nat):∃ k:Nat,(if (if (b:Int)<(n:Int) then (b:Int) else n) > 1 then (if (b:Int)<(n:Int) then (b:Int) else n) else 1)=(k:Int)/\k<=b+1:=by
 by_cases h:(b:Int)<n
 ·rw [_d h];by_cases h2:(b:Int) > 1;·exact ⟨b,by rw [_d h2],by omega⟩
  ·exact ⟨1,by rw [_o h2];rfl,by omega⟩
 ·rw [_o h];by_cases h2:(n:Int) > 1;·exact ⟨n,by rw [_d h2],by omega⟩
  ·exact ⟨1,by rw [_o h2];rfl,by omega⟩
end Pr
namespace K31
open L2 Dd Pm Pg Pn Po Pt
theorem z4s(s:Sto):yX [.exc "NoLot"] s=.ok (.str "lot") s:=by kernel_rfl
theorem z1A(s:Sto):yX [.exc "NoRule"] s=.ok (.str "rule") s:=by kernel_rfl
theorem b0 {d e f:D} {s:Sto}:(zy ym (zy yu yO)) [some (.int 0),some d,some e,some f,none] s=(zF [d,f] s).bind fun r s1=>.ok (.rt r) s1:=by
 have t:tOf (eOp dEq (zc 0) (eC (.int 0))) [some (.int 0),some d,some e,some f,none] s=.ok true s:=rfl;rw [z4Y,ym,z4i t,z00,yI,call2 (x:=d) (y:=f) rfl rfl];cases zF [d,f] s<;>rfl
theorem b1{d e f:D}{s:Sto}:(zy ym (zy yu yO)) [some (.int 1),some d,some e,some f,none] s=(yV [f] s).bind fun r s1=>.ok (.rt r) s1:=by
 have f2:ym [some (.int 1),some d,some e,some f,none] s=.ok (.nx [some (.int 1),some d,some e,some f,none]) s:=rfl;have t:tOf (eOp dEq (zc 0) (eC (.int 1))) [some (.int 1),some d,some e,some f,none] s=.ok true s:=rfl;rw [zi f2,z4Y,yu,z4i t,kT,yI,xu (x:=f) rfl];cases yV [f] s<;>rfl
theorem b2 {d e f:D} {s:Sto}:(zy ym (zy yu yO)) [some (.int 2),some d,some e,some f,none] s=(zQ [d,e,f] s).bind fun r s1=>.ok (.rt r) s1:=by
 have f2:ym [some (.int 2),some d,some e,some f,none] s=.ok (.nx [some (.int 2),some d,some e,some f,none]) s:=rfl;have f4:yu [some (.int 2),some d,some e,some f,none] s=.ok (.nx [some (.int 2),some d,some e,some f,none]) s:=rfl;rw [zi f2,zi f4,yO,yI,zgP (x:=d) (y:=e) (z:=f) rfl rfl rfl]
theorem z75{w:Int}{d e f:D}{s s':Sto}{r:D}(h:(zy ym (zy yu yO)) [some (.int w),some d,some e,some f,none] s=.ok (.rt r) s'):zn [.int w,d,e,f] s=.ok r s':=by
 have st:zq ["_law_way","_law_one","_law_other","_law_lot_here","_law_e"] [.int w,d,e,f]=[some (.int w),some d,some e,some f,none]:=rfl;simp only [zn,Mof,ja,st,_i,_l,_A,uO,zgJ];rw [h]
theorem z0o{w:Int}{d e f:D}{s:Sto}{c x:Str}(hc:c∈rsX)(hk:yX [.exc c] s=.ok (.str x) s)(h:(zy ym (zy yu yO)) [some (.int w),some d,some e,some f,none] s=.ex c s):zn [.int w,d,e,f] s=.ok (.str x) s:=by
 have st:zq ["_law_way","_law_one","_law_other","_law_lot_here","_law_e"] [.int w,d,e,f]=[some (.int w),some d,some e,some f,none]:=rfl;have e':qu ((List.replicate 5 none).set 4 (some (.exc c))) s=.ok (.rt (.str x)) s:=by rw [qu,yI,xu (x:=.exc c) (by rfl),hk];rfl
 simp only [zn,Mof,ja,st,_i,_l,_A,uO,zgJ];rw [h];simp only [_d hc,_ay,Nat.reduceAdd];rw [e']
theorem hL:("NoLot":Str)∈rsX:=by decide +kernel
theorem hR:("NoRule":Str)∈rsX:=by decide +kernel
section
variable {n:Nat}{v:List Int}{r q:Rl}{d e f:D}{s:Sto}
theorem t0(h:LotB n 104 v)(s:Sto):zn [.int 0,.str (nmR r),e,rD v] s=.ok (.int (nst r v)) s:=z75 (by rw [b0,zdB r h s];rfl)
theorem t1(h:LotB n 104 v)(s:Sto):∃ G:List Rl,G.Pairwise (fun a b=>xk (pr v a) (pr v b)=true)/\G.Perm zfj/\zn [.int 1,d,e,rD v] s=.ok (.loc s.length) (s++[G.map (qS v)]):=by
 obtain ⟨G,h1,h2,h3⟩:=zjH h s;exact ⟨G,h1,h2,z75 (by rw [b1,h3];rfl)⟩
theorem t2{A B:List (List Int)}(h:LotB n 104 v)(RA:Run r v A)(RB:Run q v B)(hA:A.length<=50000)(hB:B.length<=50000)(s:Sto):zn [.int 2,.str (nmR r),.str (nmR q),rD v] s=.ok (.int (cp A.reverse B.reverse)) s:=z75 (by rw [b2,zkj h RA RB hA hB s];rfl)
theorem zit(h:zS [f] s=.ok (.bl false) s):zn [.int 0,.str (nmR r),e,f] s=.ok (.str "lot") s/\zn [.int 1,d,e,f] s=.ok (.str "lot") s/\zn [.int 2,.str (nmR r),.str (nmR q),f] s=.ok (.str "lot") s:= ⟨z0o hL (z4s s) (by rw [b0,z1R (z4E h)];rfl),z0o hL (z4s s) (by rw [b1,zfi (z4E h)];rfl),z0o hL (z4s s) (by rw [b2,zhg (xx.ok (wa r s)) (xx.ok (wa q s)) (z4E h)];rfl)⟩
theorem zkh(h:yD [d] s=.ok (.bl false) s):zn [.int 0,d,e,f] s=.ok (.str "rule") s:=z0o hR (z1A s) (by rw [b0,z1R (z9g h)];rfl)
theorem zjA(h:yD [d] s=.ok (.bl false) s):zn [.int 2,d,e,f] s=.ok (.str "rule") s:=z0o hR (z1A s) (by rw [b2,zfS (uv h)];rfl)
theorem ziv(h:yD [e] s=.ok (.bl false) s):zn [.int 2,.str (nmR r),e,f] s=.ok (.str "rule") s:=z0o hR (z1A s) (by rw [b2,zbR (xx.ok (wa r s)) (uv h)];rfl)
end
theorem z8f{α:Type}{all:List D}{body:D->Sto->R (Option D)}(I:Sto->Prop)(g f:α->D):∀ (l:List α)(acc:List D)(s:Sto),I s->(∀ a∈l,∀ s,I s->∃ s',body (g a) s=.ok (some (f a)) s'/\I s')->acc.length+l.length<=cap->∃ s',wq [] all body (l.map g) acc s=.ok (acc++l.map f) s'/\I s'
 | [],acc,s,hI,_,_=>⟨s,by simp [wq,okG],hI⟩ | x::xs,acc,s,hI,hb,hl=>by
  have og:okG [] all s:=by intro p hp;simp at hp
  obtain ⟨s1,e1,I1⟩:=hb x (.head _) s hI;have hc:acc.length<cap:=by simp at hl;omega
  obtain ⟨s2,e2,I2⟩:=z8f (all:=all) I g f xs (acc++[f x]) s1 I1 (fun a ha=>hb a (.tail _ ha)) (by simp at hl ⊢;omega);refine ⟨s2,?_,I2⟩;rw [_w,wq,_d og,e1,Rb];simp only [_d hc,e2];simp
theorem z9s{n:Nat}{v:List Int}{r:Rl}{f g:FE}{Z:Ev}{s:Sto}(h:LotB n 104 v)(hf:f Z s=.ok (.str (nmR r)) s)(hg:g Z s=.ok (rD v) s):∃ t,ze xi (za (eOp dIx (ze zL (za f (za g zh))) (eC (.int 1))) zh) Z s=.ok (.int (nst r v)) (s++t):=by
 obtain ⟨ls,Rn,hl⟩:=z83 r h;have lr:=zba r h Rn (by decide) hl s;have ll:=zaf Rn h.toLot;refine ⟨[ls.map rD,(zU r ls).map tD],?_⟩;have tl:(zU r ls).length=nst r v:=by simp [zU];omega
 have g2:(s++[ls.map rD,(zU r ls).map tD])[s.length+1]? = some ((zU r ls).map tD):=z0e.2;have ix:eOp dIx (ze zL (za f (za g zh))) (eC (.int 1)) Z s=.ok (.loc (s.length+1)) (s++[ls.map rD,(zU r ls).map tD]):=by
  rw [yk,call2 hf hg,lr,Rb,kz,Rb];rfl
 rw [yf,zo,ix,Rb,zG,Rb];simp only [Rb,xi,zO,g2,_J,tl]
abbrev Sh(sc:D)(a1 a2 a3 a4 a5 a6 a7 a8 a9 a10 a11:Option D):Ev:=[some sc,a1,a2,a3,a4,a5,a6,a7,a8,a9,a10,a11]
theorem f5 {n:Nat} {v:List Int} {sc:D} {a1 a2 a4 a5 a6 a7 a8 a9 a10 a11:Option D} (h:LotB n 104 v) (s:Sto):∃ (G:List Rl) (t:Sto),G.Pairwise (fun a b=>xk (pr v a) (pr v b)=true)/\G.Perm rls/\z1G (Sh sc a1 a2 (some (rD v)) a4 a5 a6 a7 a8 a9 a10 a11) s=.ok (.nx (Sh sc a1 a2 (some (rD v)) a4 a5 (some (.lst (G.map (pS v)))) a7 a8 a9 a10 a11)) (s++t):=by
 have lr:=z7r s;obtain ⟨s',e,t,rfl⟩:=z8f (all:=rls.map fun r=>D.str (nmR r)) (body:=fun d s=>(vw 1 d (xl [some 3,none] (Sh sc a1 a2 (some (rD v)) a4 a5 a6 a7 a8 a9 a10 a11)) s).bind fun Z' s'=>(wS Z' s').bind fun b s2=>if b=true then (wT (za (ze xi (za (eOp dIx (ze zL (za (zc 1) (za (zc 0) zh))) (eC (.int 1))) zh)) (za (zc 1) zh)) Z' s2).bind fun d s3=>.ok (some d) s3 else .ok none s2) (fun S=>∃ t,S=s++t) (fun r=>D.str (nmR r)) (pS v) rls [] s ⟨[],by simp⟩ (fun r _ S ⟨t,ht⟩=>by
  subst ht;obtain ⟨u,hu⟩:=z9s (r:=r) (f:=zc 1) (g:=zc 0) (Z:=[some (rD v),some (.str (nmR r))]) (s:=s++t) h rfl rfl;refine ⟨s++t++u,?_,t++u,by simp⟩;have z:wT (za (ze xi (za (eOp dIx (ze zL (za (zc 1) (za (zc 0) zh))) (eC (.int 1))) zh)) (za (zc 1) zh)) [some (rD v),some (.str (nmR r))] (s++t)=.ok (pS v r) (s++t++u):=by
   rw [uC,zo,hu,Rb,zo,vr (d:=.str (nmR r)) rfl,Rb,zG];simp [cap]
  show (wT (za (ze xi (za (eOp dIx (ze zL (za (zc 1) (za (zc 0) zh))) (eC (.int 1))) zh)) (za (zc 1) zh)) [some (rD v),some (.str (nmR r))] (s++t)).bind _=_;rw [z];rfl) (by decide);obtain ⟨G,eg,pw,pm⟩:=z7F v (L:=rls) (by decide) (by decide) (by decide) (s++t);refine ⟨G,t,pw,pm,?_⟩;have c:zT (wU (ze yx zh)) [some 3,none] (vw 1) wS (wT (za (ze xi (za (eOp dIx (ze zL (za (zc 1) (za (zc 0) zh))) (eC (.int 1))) zh)) (za (zc 1) zh))) (Sh sc a1 a2 (some (rD v)) a4 a5 a6 a7 a8 a9 a10 a11) s=.ok (.lst (rls.map (pS v))) (s++t):=by
  rw [jF,jp,kN (by rw [yf,zG,Rb,lr]),Rb];simp only;rw [e];rfl
 rw [z1G,zW,yf,zo,c,Rb,zG,Rb,Rb,eg];rfl
theorem z8i {k:Nat} {ps:List (D×D)} {G:List (Nat×List D)} {s:Sto} {d e:D} (ht:(tyD d=some "list"/\tyD e=some "list")\/(tyD d=some "tuple"/\tyD e=some "tuple")) (gd:z8Q s d=some (ps.map Prod.fst,G)) (ge:z8Q s e=some (ps.map Prod.snd,[])) (og:∀ p∈G,s[p.1]? = some p.2) (ld:zO s d=some (ps.map Prod.fst)) (le:zO s e=some (ps.map Prod.snd)) (hl:ps.length<=cap) (h:∀ p∈ps,zJ k [p.1,p.2] s=.ok (.bl true) s):zJ (k+1) [d,e] s=.ok (.bl true) s:=by
 have st:zq ["_law_found","_law_due"] [d,e]=[some d,some e]:=rfl;have c:=z9S (G:=G) (fi:=zdz (za (zc 0) (za (zc 1) zh))) (mp:=[none,none]) (fg:=wz 0 1) (fe:=ze (zJ k) (za (zc 0) (za (zc 1) zh))) (Z:=[some d,some e]) (s:=s) (fun p:D×D=>D.tup [p.1,p.2]) (fun x=>D.bl true) (fun p=>[some p.1,some p.2]) ps (by simp [gd,ge,z3t]) og (fun a _=>by simp) (fun a ha=>by simp [h a ha]) hl;have ga:=z7G ps (fun _=>true) s;have ga:zbZ [.lst (ps.map fun _=>D.bl true)] s=.ok (.bl true) s:=by rw [ga];simp
 have gl:xi [d] s=.ok (.int ps.length) s:=by simp [xi,ld]
 have gl2:xi [e] s=.ok (.int ps.length) s:=by simp [xi,le]
 have q4:qd (zJ k) [some d,some e] s=.ok (.rt (.bl true)) s:=by simp only [qd,yI,zhd,yk,yf,zo,zG,c,Rb,ga,yg,_e,_h,gl,gl2,z8I,_cw]
 have q1:uT (zJ k) [some d,some e] s=.ok (.rt (.bl true)) s:=by
  rw [uT,z1a];rcases ht with ⟨hd,he⟩ | ⟨hd,he⟩;all_goals
   have t:tOf (zfA "list" "tuple" (zc 1)) [some d,some e] s=.ok true s:=by simp [zfA,zfB,he,isT]
   have q2:z08 (zJ k) [some d,some e] s=.ok (.nx [some d,some e]) s:=by simp [gIs,hd,he,isT]
   rw [t,Rb,_d rfl,zi q2,q4]
 simp only [zJ,Mof,ug,st,_i,_l,_A];rw [zaK q1]
theorem zih(r:Rl):PyData.strOk (nmR r)=true:=by cases r<;>decide +kernel
theorem zaI {v:List Int} {G:List Rl} {j:Nat} {s:Sto} (hj:s[j]? = some (G.map (qS v))) (hl:G.length<=4):yM [.loc j,.lst (G.map (qS v))] s=.ok (.bl true) s:=by
 have e1:(G.map fun r=>(qS v r,qS v r)).map Prod.fst=G.map (qS v):=by rw [_bg];rfl
 have e2:(G.map fun r=>(qS v r,qS v r)).map Prod.snd=G.map (qS v):=by rw [_bg];rfl
 refine z8i (k:=4) (ps:=G.map fun r=>(qS v r,qS v r)) (G:=[(j,G.map (qS v))]) (.inl ⟨rfl,rfl⟩) (by simp only [z8Q,hj,e1,_T]) (by simp only [z8Q,e2]) (fun p hp=>?_) (by simp only [zO,hj,e1]) (by simp only [zO,e2]) (by simp [cap];omega) (fun p hp=>?_);·rw [_a5.mp hp];exact hj
 ·obtain ⟨r,_,rfl⟩:=_ap.mp hp;have h1:=same_str 2 (zih r) s;have h2:=same_int 2 (nst r v:Int) s;exact z8i (k:=3) (ps:=[(.str (nmR r),.str (nmR r)),(.int (nst r v),.int (nst r v))]) (G:=[]) (s:=s) (.inr ⟨rfl,rfl⟩) rfl rfl (by simp) rfl rfl (by simp [cap]) (fun p hp=>by
   simp only [_r,_ax,_cm] at hp;rcases hp with rfl | rfl;·exact h1
   ·exact h2)
theorem z3b(i:Int)(s:Sto):yM [.int i,.int i] s=.ok (.bl true) s:=same_int 4 i s
theorem z5n{M:Mir}{a b c d:FE}{Z:Ev}{s:Sto}{w x y z:D}(h1:a Z s=.ok w s)(h2:b Z s=.ok x s)(h3:c Z s=.ok y s)(h4:d Z s=.ok z s):ze M (za a (za b (za c (za d zh)))) Z s=M [w,x,y,z] s:=by simp only [yf,zo,zG,h1,h2,h3,h4,Rb]
abbrev zdZ:D->Ev->Sto->R Fl:=fun d Z s=>(vw 7 d Z s).bind fun Z' s'=>(zy z1Z (zy z1T kM)) Z' s'
section
variable {sc:D}{a1 a2 a4 a5 a7 a8 a9 a10 a11:Option D}{n:Nat}{v:List Int}{G:List Rl}
theorem zfn {d e f:D} (h:LotB n 104 v) (pw:G.Pairwise (fun a b=>xk (pr v a) (pr v b)=true)) (pm:G.Perm rls) (S:Sto): ∃ b8 S',zdZ d (Sh sc a1 a2 (some (rD v)) (some e) (some f) (some (.lst (G.map (pS v)))) a7 a8 a9 a10 a11) S=.ok (.nx (Sh sc a1 a2 (some (rD v)) (some e) (some f) (some (.lst (G.map (pS v)))) (some d) b8 a9 a10 a11)) S'/\∀ k,k<S.length->S'[k]? = S[k]? := by
 obtain ⟨G',pw',pm',t⟩:=t1 (d:=e) (e:=f) h S;have eG:G'=G:=zeX ((pm'.trans zcw).trans pm.symm) pw' pw;rw [eG] at t;have gl:G.length=4:=pm.length_eq;have gj:(S++[G.map (qS v)])[S.length]? = some (G.map (qS v)):=by simp
 have sm:=zaI gj (by omega);have lq:(G.map (qS v)).length=4:=by simp [gl]
 have c:zT (wU (zc 6)) [none,none] (wz 0 1) wS (wT (za (zc 1) (za (zc 0) zh))) (Sh sc a1 a2 (some (rD v)) (some e) (some f) (some (.lst (G.map (pS v)))) (some d) (some (.loc S.length)) a9 a10 a11) (S++[G.map (qS v)])=.ok (.lst (G.map (qS v))) (S++[G.map (qS v)]):=comp_map (pS v) (qS v) (fun r=>[some (.int (nst r v)),some (.str (nmR r))]) G (kN (vr rfl)) (fun r _=>rfl) (fun r _=>rfl) (by simp [gl,cap]);refine ⟨some (.loc S.length),S++[G.map (qS v)++[.tup []]],?_,fun k hk=>by rw [_v hk]⟩;generalize G.map (qS v)=B at *;generalize G.map (pS v)=P at *;rw [show zdZ d (Sh sc a1 a2 (some (rD v)) (some e) (some f) (some (.lst P)) a7 a8 a9 a10 a11) S=(zy z1Z (zy z1T kM)) (Sh sc a1 a2 (some (rD v)) (some e) (some f) (some (.lst P)) (some d) a8 a9 a10 a11) S from rfl];have g7:z1Z (Sh sc a1 a2 (some (rD v)) (some e) (some f) (some (.lst P)) (some d) a8 a9 a10 a11) S=.ok (.nx (Sh sc a1 a2 (some (rD v)) (some e) (some f) (some (.lst P)) (some d) (some (.loc S.length)) a9 a10 a11)) (S++[B]):=by rw [z1Z,zW,z5n (w:=.int 1) (x:=e) (y:=f) (z:=rD v) rfl (vr rfl) (vr rfl) (vr rfl),t];rfl
 have g8:z1T (Sh sc a1 a2 (some (rD v)) (some e) (some f) (some (.lst P)) (some d) (some (.loc S.length)) a9 a10 a11) (S++[B])=.ok (.nx (Sh sc a1 a2 (some (rD v)) (some e) (some f) (some (.lst P)) (some d) (some (.loc S.length)) a9 a10 a11)) (S++[B]):=by
  rw [z1T,zbi (not_t (z4g (by rw [call2 (x:=.loc S.length) (y:=.lst B) (vr rfl) c,sm])))];rfl
 have g10:kM (Sh sc a1 a2 (some (rD v)) (some e) (some f) (some (.lst P)) (some d) (some (.loc S.length)) a9 a10 a11) (S++[B])=.ok (.nx (Sh sc a1 a2 (some (rD v)) (some e) (some f) (some (.lst P)) (some d) (some (.loc S.length)) a9 a10 a11)) (S++[B++[.tup []]]):=by
  have c0:([]:List D).length<=cap:=by decide
  have fl:(D.tup []).flat=true:=rfl;have ln:B.length<cap:=by unfold cap;omega
  rw [kM,wI,z3C,vr (d:=.loc S.length) rfl,Rb];simp only [uC,zG,Rb,_d c0,gj,_d (show (D.tup []).flat=true/\B.length<cap from ⟨fl,ln⟩)];simp
 rw [zi g7,zi g8,g10]
theorem zf5 {e f:D} (h:LotB n 104 v) (pw:G.Pairwise (fun a b=>xk (pr v a) (pr v b)=true)) (pm:G.Perm rls) (S:Sto): ∃ b7 b8 S',z1Q (Sh sc a1 a2 (some (rD v)) (some e) (some f) (some (.lst (G.map (pS v)))) a7 a8 a9 a10 a11) S=.ok (.nx (Sh sc a1 a2 (some (rD v)) (some e) (some f) (some (.lst (G.map (pS v)))) b7 b8 a9 a10 a11)) S'/\∀ k,k<S.length->S'[k]? = S[k]? := by
 obtain ⟨Z',S',lp,b7,b8,rfl,hl,fr⟩:=z4f (all:=xO 2) (body:=zdZ) (fun Z S1=>∃ x7 x8,Z=Sh sc a1 a2 (some (rD v)) (some e) (some f) (some (.lst (G.map (pS v)))) x7 x8 a9 a10 a11/\S.length<=S1.length/\∀ k,k<S.length->S1[k]? = S[k]?) (xO 2) (fun x hx Z S1 hI=>by
  obtain ⟨x7,x8,rfl,hl,fr⟩:=hI;obtain ⟨b8,S2,eq,f2⟩:=zfn (sc:=sc) (a1:=a1) (a2:=a2) (a7:=x7) (a8:=x8) (a9:=a9) (a10:=a10) (a11:=a11) (d:=x) (e:=e) (f:=f) h pw pm S1;refine ⟨_,S2,eq,some x,b8,rfl,?_,fun k hk=>by rw [f2 k (by omega),fr k hk]⟩;refine _ah fun z=>?_;have h1:=f2 S2.length (by omega);have h2:S2.length<S1.length:=by omega
  rw [_al (_j _),_f h2] at h1;cases h1) (Sh sc a1 a2 (some (rD v)) (some e) (some f) (some (.lst (G.map (pS v)))) a7 a8 a9 a10 a11) S ⟨_,_,rfl,_j _,fun _ _=>rfl⟩;refine ⟨b7,b8,S',?_,fr⟩;unfold z1Q;rw [z11,jY (n:=2) (s1:=S) (by decide) (by simp only [zo,zG,kz,Rb];rfl),Rb];exact lp
end
def ShL(ns:List Int)(Z:Ev):Prop:=∃ a1 a2 a3 a4 a5 a6 a7 a8 a9 a10 a11,Z=Sh (.scr (iL ns)) a1 a2 a3 a4 a5 a6 a7 a8 a9 a10 a11
abbrev zeP:D->Ev->Sto->R Fl:=fun d Z s=>(vw 1 d Z s).bind fun Z' s'=>(zy z1z (zy z2A (zy z26 (zy z1G (zy z1Q (zy jx (zy jG (zy jB (zy jH (zy jv jz)))))))))) Z' s'
section
variable {sc:D}{a1 a6 a7 a8 a9 a10 a11:Option D}{n l:Nat}{v:List Int}{r q:Rl}
abbrev S6(sc:D)(a1:Option D)(l:Nat)(v:List Int)(r q:Rl)(a6 a7 a8 a9 a10 a11:Option D):Ev:=Sh sc a1 (some (.loc l)) (some (rD v)) (some (.str (nmR r))) (some (.str (nmR q))) a6 a7 a8 a9 a10 a11
theorem zir (h:LotB n 104 v) (s:Sto):∃ t,(∀ g:FS,(zy jx (zy jG g)) (S6 sc a1 l v r q a6 a7 a8 a9 a10 a11) s=g (S6 sc a1 l v r q a6 a7 a8 a9 a10 a11) (s++t)):=by
 obtain ⟨A,RA,hA⟩:=z83 r h;obtain ⟨B,RB,hB⟩:=z83 q h;obtain ⟨u,hu⟩:=z9s (r:=r) (f:=zc 4) (g:=zc 3) (Z:=S6 sc a1 l v r q a6 a7 a8 a9 a10 a11) (s:=s) h rfl rfl;obtain ⟨w,hw⟩:=zem h RA RB hA hB (s++u);have k0:=t0 (r:=r) (e:=.str (nmR q)) h s;have k2:=t2 h RA RB hA hB (s++u);have g11:jx (S6 sc a1 l v r q a6 a7 a8 a9 a10 a11) s=.ok (.nx (S6 sc a1 l v r q a6 a7 a8 a9 a10 a11)) (s++u):=by
  have z:ze yM (za (ze zn (za (eC (.int 0)) (za (zc 4) (za (zc 5) (za (zc 3) zh))))) (za (ze xi (za (eOp dIx (ze zL (za (zc 4) (za (zc 3) zh))) (eC (.int 1))) zh)) zh)) (S6 sc a1 l v r q a6 a7 a8 a9 a10 a11) s=.ok (.bl true) (s++u):=by rw [yf,zo,z5n (w:=.int 0) (x:=.str (nmR r)) (y:=.str (nmR q)) (z:=rD v) rfl rfl rfl rfl,k0,Rb,zo,hu,Rb,zG,Rb,Rb,Rb,z3b]
  rw [jx,z1a,z12,vq,z];rfl
 have g13:jG (S6 sc a1 l v r q a6 a7 a8 a9 a10 a11) (s++u)=.ok (.nx (S6 sc a1 l v r q a6 a7 a8 a9 a10 a11)) (s++u++w):=by
  have z:ze yM (za (ze zn (za (eC (.int 2)) (za (zc 4) (za (zc 5) (za (zc 3) zh))))) (za (ze xp (za (zc 4) (za (zc 5) (za (zc 3) zh)))) zh)) (S6 sc a1 l v r q a6 a7 a8 a9 a10 a11) (s++u)=.ok (.bl true) (s++u++w):=by rw [yf,zo,z5n (w:=.int 2) (x:=.str (nmR r)) (y:=.str (nmR q)) (z:=rD v) rfl rfl rfl rfl,k2,Rb,zo,zgP (x:=.str (nmR r)) (y:=.str (nmR q)) (z:=rD v) rfl rfl rfl,hw,Rb,zG,Rb,Rb,Rb,z3b]
  rw [jG,z1a,z12,vq,z];rfl
 refine ⟨u++w,fun g=>?_⟩;rw [zi g11,zi g13,_aC]
theorem zhm {s:Sto} (h:LotB n 104 v) (hp:Pot s l):∃ b9 b10 b11 s',(zy jB (zy jH (zy jv jz))) (S6 sc a1 l v r q a6 a7 a8 a9 a10 a11) s=.ok (.nx (S6 sc a1 l v r q a6 a7 a8 b9 b10 b11)) s':=by
 have l4:=h.toLot.le4;obtain ⟨bad,s3,e6,kb,d3⟩:=zhw (m:=104) hp h.abs (by decide) (by omega) (by omega);obtain ⟨no,s5,e9,hno,d5⟩:=z9U r d3.pot;have nr:=zgl hno s5;have g15:jB (S6 sc a1 l v r q a6 a7 a8 a9 a10 a11) s=.ok (.nx (S6 sc a1 l v r q a6 a7 a8 (some bad) (some no) a11)) s5:=by
  rw [jB,z8b,uC,zo,call2 (x:=.loc l) (y:=rD v) rfl rfl,e6,Rb,zo,call2 (x:=.loc l) (y:=.str (nmR r)) rfl rfl,e9,Rb,zG];simp only [Rb];rw [_d (by simp [cap])];rfl
 have g16:jH (S6 sc a1 l v r q a6 a7 a8 (some bad) (some no) a11) s5=.ok (.nx (S6 sc a1 l v r q a6 a7 a8 (some bad) (some no) a11)) s5:=by
  rw [jH,zbi];·rfl
  ·rcases zbM kb.kd s5 with ⟨n',v',rfl,hv,h1,h2⟩ | ⟨h1,h2⟩
   ·rw [z6c,z12,z4g (b:=true) (by rw [xu (x:=rD v') rfl,h2])];rfl
   ·rw [z6c,z12,z4g (b:=false) (by rw [xu (x:=bad) rfl,h2])];simp only [Rb,Bool.not_false,_A];obtain ⟨w0,w1,w2⟩:=zit (r:=r) (q:=q) (d:=.str (nmR r)) (e:=.str (nmR q)) h1;have key:∀ (w:Int),zn [.int w,.str (nmR r),.str (nmR q),bad] s5=.ok (.str "lot") s5->ze zn (za (zc 3) (za (zc 0) (za (zc 1) (za (zc 2) zh)))) (([some (.str (nmR r)),some (.str (nmR q)),some bad,none]:Ev).set 3 (some (.int w))) s5=.ok (.str "lot") s5:=fun w k=>by rw [z5n (w:=.int w) (x:=.str (nmR r)) (y:=.str (nmR q)) (z:=bad) rfl rfl rfl rfl,k]
    have c:=ziC (Z:=S6 sc a1 l v r q a6 a7 a8 (some bad) (some no) a11) (mp:=[some 4,some 5,some 9,none]) (j:=3) (fe:=ze zn (za (zc 3) (za (zc 0) (za (zc 1) (za (zc 2) zh))))) (key 0 w0) (key 1 w1) (key 2 w2);exact z4g (by rw [op2 c (zga "lot" _ s5),zcK (by decide +kernel)])
 have k1:=zkh (e:=.str (nmR q)) (f:=bad) nr;have k2:=zjA (e:=no) (f:=bad) nr;have k3:=ziv (r:=r) (f:=bad) nr;have k4:=zjA (e:=.str (nmR r)) (f:=rD v) nr;have g18:jv (S6 sc a1 l v r q a6 a7 a8 (some bad) (some no) a11) s5=.ok (.nx (S6 sc a1 l v r q a6 a7 a8 (some bad) (some no) (some (.lst [.str "rule",.str "rule",.str "rule"])))) s5:=by
  rw [jv,zW,z0O,zo,z5n (w:=.int 0) (x:=no) (y:=.str (nmR q)) (z:=bad) rfl rfl rfl rfl,k1,Rb,zo,z5n (w:=.int 2) (x:=no) (y:=no) (z:=bad) rfl rfl rfl rfl,k2,Rb,zo,z5n (w:=.int 2) (x:=.str (nmR r)) (y:=no) (z:=bad) rfl rfl rfl rfl,k3,Rb,zG];simp only [Rb];rw [_d (by simp [cap])];rfl
 have g19:jz (S6 sc a1 l v r q a6 a7 a8 (some bad) (some no) (some (.lst [.str "rule",.str "rule",.str "rule"]))) s5=.ok (.nx (S6 sc a1 l v r q a6 a7 a8 (some bad) (some no) (some (.lst [.str "rule",.str "rule",.str "rule"])))) s5:=by
  have x1:eOp vM (zc 11) (jO (za (ze zn (za (eC (.int 2)) (za (zc 10) (za (zc 4) (za (zc 3) zh))))) zh)) (S6 sc a1 l v r q a6 a7 a8 (some bad) (some no) (some (.lst [.str "rule",.str "rule",.str "rule"]))) s5=.ok (.lst [.str "rule",.str "rule",.str "rule",.str "rule"]) s5:=by
   rw [op2 (x:=.lst [.str "rule",.str "rule",.str "rule"]) (y:=.lst [.str "rule"]) rfl (by
    rw [z0O,zo,z5n (w:=.int 2) (x:=no) (y:=.str (nmR r)) (z:=rD v) rfl rfl rfl rfl,k4,Rb,zG];simp only [Rb];rw [_d (by simp [cap])])];kernel_rfl
  have x2:eOp zfz (jO (za (eC (.str "rule")) zh)) (eC (.int 4)) (S6 sc a1 l v r q a6 a7 a8 (some bad) (some no) (some (.lst [.str "rule",.str "rule",.str "rule"]))) s5=.ok (.lst [.str "rule",.str "rule",.str "rule",.str "rule"]) s5:=by
   rw [op2 (x:=.lst [.str "rule"]) (y:=.int 4) (by simp [cap]) rfl];kernel_rfl
  have ne:dNe (.lst [.str "rule",.str "rule",.str "rule",.str "rule"]) (.lst [.str "rule",.str "rule",.str "rule",.str "rule"]) s5=.ok (.bl false) s5:=by kernel_rfl
  rw [jz,zbi (z4g (by rw [op2 x1 x2,ne]))];rfl
 exact ⟨_,_,_,_,by rw [zi g15,zi g16,zi g18,g19]⟩
end
theorem zfo (ns:List Int) (j:Nat) (Z:Ev) (s:Sto) (h:ShL ns Z):∃ Z' s',zeP (.int j) Z s=.ok (.nx Z') s'/\ShL ns Z':=by
 obtain ⟨a1,a2,a3,a4,a5,a6,a7,a8,a9,a10,a11,rfl⟩:=h;rw [show zeP (.int j) (Sh (.scr (iL ns)) a1 a2 a3 a4 a5 a6 a7 a8 a9 a10 a11) s=(zy z1z (zy z2A (zy z26 (zy z1G (zy z1Q (zy jx (zy jG (zy jB (zy jH (zy jv jz)))))))))) (Sh (.scr (iL ns)) (some (.int j)) a2 a3 a4 a5 a6 a7 a8 a9 a10 a11) s from rfl];obtain ⟨c,e1⟩:=zgd ns j s;obtain ⟨p,e2⟩:=ziE c s;have hp:Pot (s++[[.int p]]) s.length:=⟨p,by simp⟩;obtain ⟨n,v,s1,e3,hv,d1⟩:=ziT hp;have f2:z1z (Sh (.scr (iL ns)) (some (.int j)) a2 a3 a4 a5 a6 a7 a8 a9 a10 a11) s=.ok (.nx (Sh (.scr (iL ns)) (some (.int j)) (some (.loc s.length)) a3 a4 a5 a6 a7 a8 a9 a10 a11)) (s++[[.int p]]):=by rw [z1z,zW,xu (x:=.int c) (by rw [call2 (x:=.scr (iL ns)) (y:=.int j) (vr rfl) (vr rfl),e1]),e2];rfl
 have f3:z2A (Sh (.scr (iL ns)) (some (.int j)) (some (.loc s.length)) a3 a4 a5 a6 a7 a8 a9 a10 a11) (s++[[.int p]])=.ok (.nx (Sh (.scr (iL ns)) (some (.int j)) (some (.loc s.length)) (some (rD v)) a4 a5 a6 a7 a8 a9 a10 a11)) s1:=by rw [z2A,zW,xu (x:=.loc s.length) (vr rfl),e3];rfl
 obtain ⟨r,s2,e4,d2⟩:=zde (f:=zc 2) (Z:=Sh (.scr (iL ns)) (some (.int j)) (some (.loc s.length)) (some (rD v)) a4 a5 a6 a7 a8 a9 a10 a11) d1.pot (vr rfl);obtain ⟨q,s3,e5,d3⟩:=zde (f:=zc 2) (Z:=Sh (.scr (iL ns)) (some (.int j)) (some (.loc s.length)) (some (rD v)) a4 a5 a6 a7 a8 a9 a10 a11) d2.pot (vr rfl);have f4:z26 (Sh (.scr (iL ns)) (some (.int j)) (some (.loc s.length)) (some (rD v)) a4 a5 a6 a7 a8 a9 a10 a11) s1=.ok (.nx (S6 (.scr (iL ns)) (some (.int j)) s.length v r q a6 a7 a8 a9 a10 a11)) s3:=by
  rw [z26,z8b,uC,zo,e4,Rb,zo,e5,Rb,zG];simp only [Rb];rw [_d (by simp [cap])];rfl
 obtain ⟨G,t,pw,pm,g5⟩:=f5 (sc:=.scr (iL ns)) (a1:=some (.int j)) (a2:=some (.loc s.length)) (a4:=some (.str (nmR r))) (a5:=some (.str (nmR q))) (a6:=a6) (a7:=a7) (a8:=a8) (a9:=a9) (a10:=a10) (a11:=a11) hv s3;obtain ⟨b7,b8,s4,g6,fr⟩:=zf5 (sc:=.scr (iL ns)) (a1:=some (.int j)) (a2:=some (.loc s.length)) (a7:=a7) (a8:=a8) (a9:=a9) (a10:=a10) (a11:=a11) (e:=.str (nmR r)) (f:=.str (nmR q)) hv pw pm (s3++t);have p4:Pot s4 s.length:=by
  obtain ⟨p,hp4⟩:=d3.pot.app t;exact ⟨p,by rw [fr _ (_c.mp hp4).1,hp4]⟩
 obtain ⟨u,gm⟩:=zir (sc:=.scr (iL ns)) (a1:=some (.int j)) (l:=s.length) (a6:=some (.lst (G.map (pS v)))) (a7:=b7) (a8:=b8) (a9:=a9) (a10:=a10) (a11:=a11) (r:=r) (q:=q) hv s4;obtain ⟨b9,b10,b11,s',gr⟩:=zhm (sc:=.scr (iL ns)) (a1:=some (.int j)) (a6:=some (.lst (G.map (pS v)))) (a7:=b7) (a8:=b8) (a9:=a9) (a10:=a10) (a11:=a11) (r:=r) (q:=q) hv (p4.app u);exact ⟨_,s',by rw [zi f2,zi f3,zi f4,zi g5,zi g6,gm,gr],_,_,_,_,_,_,_,_,_,_,_,rfl⟩
theorem zhs (ns:List Int):∃ Z' s',z6C (Sh (.scr (iL ns)) none none none none none none none none none none none) []=.ok (.nx Z') s':=by
 obtain ⟨k,ek,hk⟩:=Pr.m_many ns.length 10;rw [show ((10:Nat):Int)=10 from rfl] at ek;obtain ⟨Z',s',e,_⟩:=z4f (all:=xO k) (body:=zeP) (fun Z _=>ShL ns Z) (xO k) (fun x hx Z s hI=>by
  obtain ⟨j,_,rfl⟩:=z91 hx;exact zfo ns j Z s hI) (Sh (.scr (iL ns)) none none none none none none none none none none none) [] ⟨_,_,_,_,_,_,_,_,_,_,_,rfl⟩;refine ⟨Z',s',?_⟩;unfold z6C;rw [z11,jY (n:=k) (s1:=[]) (by omega) (by simp only [yf,zo,zG,kz,yg,_e,Rb,xi,zO,_J,z4J,zck,ek]),Rb];exact e
theorem ziR(Z:Ev)(s:Sto):∃ s',z4O Z s=.ok (.rt (.bl true)) s':=by
 have v1:LotB 2 104 [0,5]:=⟨⟨by simp [Sz],rfl,by simp,5,by simp,by decide⟩,by simp⟩;have R1:Run .nx [0,5] [[0,5]]:=.done (by decide +kernel);have R2:Run .tu [0,5] [[0,5]]:=.done (by decide +kernel);have t:zn [.int 2,.str "next",.str "turn",.tup [.int 0,.int 5]] s=.ok (.int ((cp [[0,5]] [[0,5]]:Nat):Int)) s:=t2 v1 R1 R2 (by decide) (by decide) s;have e:cp [[0,5]] [[0,5]]=1:=by simp [cp]
 rw [e] at t;refine ⟨s,?_⟩;have c2:(2:Nat)<=cap:=by decide
 rw [z4O,yI];simp only [yk,yf,zo,zG,uC,kz,Rb,_i,_l,_ay,Nat.reduceAdd,_d c2,t,z8I];rfl
theorem zcr:∀ ns:List Int,ns.length<=63->∃ s',zeT [.scr (ns.map D.int)] []=.ok (.bl true) s':=fun ns hn=>by
 obtain ⟨Z',s',e⟩:=zhs ns;obtain ⟨s'',e2⟩:=ziR Z' s';refine ⟨s'',?_⟩;have st:zq ["_law_script","_law_k","_law_pot_here","_law_lot_here","_law_one","_law_other","_law_steps","_law_turn","_law_found","_law_bad","_law_none","_law_rows"] [.scr (ns.map D.int)]=Sh (.scr (iL ns)) none none none none none none none none none none none:=rfl;unfold zeT Mof zcS;rw [_d (by rfl),st,zi e,e2]
end K31
namespace K31
open L2 Dd Pg
theorem zhL:∀ x∈rsX,x∈askQ.xs:=by decide +kernel
theorem zkm:∀ x∈csX,x∈askQ.xs:=by decide +kernel
theorem zko:∀ x∈rsX,∀ y∈csX,((x,y),x==y)∈askQ.ps:=by decide +kernel
theorem zki:("DrawError":Str)∈askQ.xs:=by decide +kernel
theorem zkv:∀ x∈rsX,((x,("DrawError":Str)),true)∈askQ.ps:=by decide +kernel
theorem all_mk {P:Program} {w:World} {K:W.Frag} {h:Heap} {mg:Str->Option Value} {fa:Addr} (X:K.In h) (G:h.Ns mainGlobals mg) (hfa:mg "law"=some (.ref fa)) (e:z8K askQ K=valS askQ w) : ∃ fd:FuncData,(∀ (s:Shared) (v:Value),BindsTo s fd ⟨[v],[]⟩ [("_law_script",v)])/\∀ base:Heap,K.In base->base.Ns mainGlobals mg->z47 P w K mg base CX0 12 fa fd ["_law_script"] (zeN K):=by
 obtain ⟨f0,d0,a0,F0⟩:=zP X G e 0 rfl;obtain ⟨f1,d1,a1,F1⟩:=zP X G e 1 rfl;obtain ⟨f2,d2,a2,F2⟩:=zP X G e 2 rfl;obtain ⟨f3,d3,a3,F3⟩:=zP X G e 3 rfl;obtain ⟨f4,d4,a4,F4⟩:=zP X G e 4 rfl;obtain ⟨f5,d5,a5,F5⟩:=zP X G e 5 rfl;obtain ⟨f6,d6,a6,F6⟩:=zP X G e 6 rfl;obtain ⟨f7,d7,a7,F7⟩:=zP X G e 7 rfl;obtain ⟨f8,d8,a8,F8⟩:=zP X G e 8 rfl;obtain ⟨f9,d9,a9,F9⟩:=zP X G e 9 rfl;obtain ⟨f10,d10,a10,F10⟩:=zP X G e 10 rfl;obtain ⟨f11,d11,a11,F11⟩:=zP X G e 11 rfl;obtain ⟨f12,d12,a12,F12⟩:=zP X G e 12 rfl;obtain ⟨f13,d13,a13,F13⟩:=zP X G e 13 rfl;obtain ⟨f14,d14,a14,F14⟩:=zP X G e 14 rfl;obtain ⟨f15,d15,a15,F15⟩:=zP X G e 15 rfl;obtain ⟨f16,d16,a16,F16⟩:=zP X G e 16 rfl;obtain ⟨f17,d17,a17,F17⟩:=zP X G e 17 rfl;obtain ⟨f18,d18,a18,F18⟩:=zP X G e 18 rfl;obtain ⟨f19,d19,a19,F19⟩:=zP X G e 19 rfl;obtain ⟨f20,d20,a20,F20⟩:=zP X G e 20 rfl;obtain ⟨f21,d21,a21,F21⟩:=zP X G e 21 rfl;obtain ⟨f22,d22,a22,F22⟩:=zP X G e 22 rfl;obtain ⟨f23,d23,a23,F23⟩:=zP X G e 23 rfl;obtain ⟨f24,d24,a24,F24⟩:=zP X G e 24 rfl;obtain ⟨f25,d25,a25,F25⟩:=zP X G e 25 rfl;obtain ⟨f26,d26,a26,F26⟩:=zP X G e 26 rfl;obtain ⟨f27,d27,a27,F27⟩:=zP X G e 27 rfl;obtain ⟨f28,d28,a28,F28⟩:=zP X G e 28 rfl;obtain ⟨f29,d29,a29,F29⟩:=zP X G e 29 rfl;obtain ⟨f30,d30,a30,F30⟩:=zP X G e 30 rfl;obtain ⟨f31,d31,a31,F31⟩:=zP X G e 31 rfl;obtain ⟨f32,d32,a32,F32⟩:=zP X G e 32 rfl;obtain ⟨f33,d33,a33,F33⟩:=zP X G e 33 rfl;obtain ⟨f34,d34,a34,F34⟩:=zP X G e 34 rfl;obtain ⟨f35,d35,a35,F35⟩:=zP X G e 35 rfl;obtain ⟨f36,d36,a36,F36⟩:=zP X G e 36 rfl;obtain ⟨f37,d37,a37,F37⟩:=zP X G e 37 rfl;obtain ⟨f38,d38,a38,F38⟩:=zP X G e 38 rfl;obtain ⟨f39,d39,a39,F39⟩:=zP X G e 39 rfl;obtain ⟨f40,d40,a40,F40⟩:=zP X G e 40 rfl;obtain ⟨f41,d41,a41,F41⟩:=zP X G e 41 rfl;have e0:=hfa.symm.trans a41;cases e0;obtain ⟨oc,od,kV,doc,pm,an,cdv,ct,osl,rfl,hl,hc⟩:=F41.ex;have T:Txt mg:=⟨zda X G e 0 rfl,zda X G e 1 rfl,vJ X G e 0 rfl,vJ X G e 1 rfl,vJ X G e 2 rfl,vJ X G e 3 rfl,vJ X G e 4 rfl,vJ X G e 5 rfl,vJ X G e 6 rfl,vJ X G e 7 rfl,vJ X G e 8 rfl,vJ X G e 9 rfl,vJ X G e 10 rfl,vJ X G e 11 rfl,vJ X G e 12 rfl,vJ X G e 13 rfl,vJ X G e 14 rfl⟩;have T_RULES:zeq P w K mg "RULES" yN:=zi0 X G e "RULES" z4z (_y (i:=0) rfl);have O_RULES:z8w P w K mg "RULES" (yN.map Prod.fst):=zfY X G e "RULES" z4z (_y (i:=0) rfl) (by decide +kernel);have GG:∀ (x:Str) (v:Value),W.nsIn K mainGlobals x=some (some v)->mg x=some v:=fun x v h=>W.mg_of X G h;have E_NoLot:zfw K mg "NoLot":=z9t GG (z8y e "NoLot" (zhL _ (by decide +kernel)));have E_NoRule:zfw K mg "NoRule":=z9t GG (z8y e "NoRule" (zhL _ (by decide +kernel)));have FM:z5h ⟨mg,K⟩ rsX csX:=z9K GG (fun x hx=>z8y e x (zhL x hx)) (fun x hx=>z8y e x (zkm x hx)) (fun x hx y hy=>by rw [zhu e x y (x==y) (zko x hx y hy)];rfl);have KS:∀ c∈rsX,zhF K mg c "DrawError":=fun x hx=>zfh GG (z8y e x (zhL x hx)) (z8y e "DrawError" zki) (by rw [zhu e x "DrawError" true (zkv x hx)];rfl);refine ⟨W.fnOf "law" "law" (z0i z37) (wY z37) (zg z37) .none kV doc pm an cdv ct,fun s v=>.of_eq rfl,fun base _ _=>?_⟩;have H0:=z62 (P:=P) (w:=w) (base:=base) T F0 a0;have H1:=z5L (P:=P) (w:=w) (base:=base) T F1 a1;have H2:=qo (P:=P) (w:=w) (base:=base) T F2 a2;have H3:=z2s (P:=P) (w:=w) (base:=base) T F3 a3;have H4:=z7k (P:=P) (w:=w) (base:=base) T F4 a4;have H5:=z6S (P:=P) (w:=w) (base:=base) T F5 a5 T_RULES;have H6:=zad (P:=P) (w:=w) (base:=base) T F6 a6;have H7:=z1k (P:=P) (w:=w) (base:=base) T F7 a7;have H8:=z65 (P:=P) (w:=w) (base:=base) T F8 a8;have H9:=z3F (P:=P) (w:=w) (base:=base) T F9 a9;have H10:=z2I (P:=P) (w:=w) (base:=base) T F10 a10;have H11:=z4q (P:=P) (w:=w) (base:=base) T F11 a11;have H12:=z30 (P:=P) (w:=w) (base:=base) T F12 a12;have H13:=z2L (P:=P) (w:=w) (base:=base) T F13 a13;have H14:=z18 (P:=P) (w:=w) (base:=base) T F14 a14 FM;have H15:=z2P (P:=P) (w:=w) (base:=base) T F15 a15 H0;have H16:=z6s (P:=P) (w:=w) (base:=base) T F16 a16 H2;have H17:=z55 (P:=P) (w:=w) (base:=base) T F17 a17 H2 H3;have H18:=z8Y (P:=P) (w:=w) (base:=base) T F18 a18 H3 H4;have H19:=z6A (P:=P) (w:=w) (base:=base) T F19 a19 H4;have HX20:=z2V (P:=P) (w:=w) (base:=base) T F20 a20 E_NoRule H5;have H20:=z4G (P:=P) (w:=w) (base:=base) T F20 a20 H5;have H21:=z4Z (P:=P) (w:=w) (base:=base) T F21 a21 H9;have H22:=z5C (P:=P) (w:=w) (base:=base) T F22 a22 H11 H12;have H23:=z16 (P:=P) (w:=w) (base:=base) T F23 a23 H9;have H24:=z25 (P:=P) (w:=w) (base:=base) T F24 a24 H13;have H25:=z5K (P:=P) (w:=w) (base:=base) T F25 a25 H9;have H26:=z4a (P:=P) (w:=w) (base:=base) T F26 a26 H13;have H27:=z8r (P:=P) (w:=w) (base:=base) T F27 a27 H1 H15;have H28:=z4V (P:=P) (w:=w) (base:=base) T F28 a28 T_RULES H16 H17 H18 H19;have H29:=z3P (P:=P) (w:=w) (base:=base) T F29 a29 H9 H25;have H30:=z2Q (P:=P) (w:=w) (base:=base) T F30 a30 H22;have HX31:=z4l (P:=P) (w:=w) (base:=base) T F31 a31 E_NoLot H27;have H31:=z68 (P:=P) (w:=w) (base:=base) T F31 a31 H27;have H32:=z4m (P:=P) (w:=w) (base:=base) T F32 a32 H31;have HX33:=qM (P:=P) (w:=w) (base:=base) T F33 a33 HX20 HX31;have H33:=jt (P:=P) (w:=w) (base:=base) T F33 a33 H20 H31;have H34:=z4Q (P:=P) (w:=w) (base:=base) T F34 a34 H32 H33;have H35:=zcE (P:=P) (w:=w) (base:=base) T F35 a35 H6 H28 H34;have HX36:=zct (P:=P) (w:=w) (base:=base) T F36 a36 H32 H35 HX33;have HX37:=z2m (P:=P) (w:=w) (base:=base) T F37 a37 HX36;have HX38:=z1D (P:=P) (w:=w) (base:=base) T F38 a38 HX20 HX36;have HX39:=z4K (P:=P) (w:=w) (base:=base) T F39 a39 O_RULES HX37;have H40:=z4k (P:=P) (w:=w) (base:=base) T F40 a40 KS H14 HX37 HX38 HX39;have H41:=z8k (P:=P) (w:=w) (base:=base) T F41 a41 H7 H8 H9 H10 H21 H22 H23 H24 H26 H29 H30 H40;exact zhp (x:="law") H41 zcr
theorem boot_:∀ w:World,(W.fencedOpening treeTable PySem.Challenge.pw_drawndown_k31_steps_counted w 10488).map (fun s=>(s.heap,s.gens,s.drawn,s.toks))=some (W.boot_heap w.params,Array.mk [],W.boot_drawn,W.boot_toks):= W.boot_open (by kernel_rfl) (by decide) (fun s=>by kernel_rfl)
theorem left_:W.LeftO PySem.Challenge.pw_drawndown_k31_steps_counted qv looseQ xtQ (obsS askQ) (valS askQ) 10488:=zaN "special-get-raises" boot_ (fun w os=>z36 (f:=fun s=>(seenQ s,obsS askQ s)) (zjl w) (bsz w) (z6h (z4T w os) (z5s w os))) (fun w os=>z36 (f:=fun s=>(seenQ s,obsS askQ s)) (zjl w) (bsz w) (z6h (z6L w os) (z6X w os)))
end K31
open PySem.W
set_option maxRecDepth 100000 in
set_option maxHeartbeats 0 in
theorem PySem.Challenge.cw_drawndown_k31_steps_counted_holds : PySem.Challenge.rw_drawndown_k31_steps_counted.Holds := by
  w_on; o_law
  refine holds_open (q := K31.qv) (loose := K31.looseQ) (Xt := K31.xtQ) (XP := XL K31.qv K31.lvQ) (Yf := Dd.obsS K31.askQ) (Ya := Dd.valS K31.askQ) (YP := Dd.saysS K31.askQ) (N := 10488) K31.left_ (Dd.zdP K31.askQ) (Dd.z8T K31.askQ) (fun s e => xl_of s (Bool.and_eq_true_iff.mp e).1) XL.keeps (by rfl) (by rfl) (by rfl) (fun s e => recFacts_of (Bool.and_eq_true_iff.mp e).2) (by rfl) (by first | assumption | decide +kernel) (by decide +kernel) ⟨rfl, rfl, rfl, rfl, rfl, by decide +kernel⟩ ?hw ?hc
  (case hw => w_witness2)
  refine Dd.walkY (l := PySem.Challenge.rw_drawndown_k31_steps_counted) (n := 63) (k := 12) (x := "_law_script") rfl (by decide) (by decide) rfl ⟨rfl, by decide, by decide, rfl⟩ ?F
  case F =>
    intro w mg fa h Yy G hmg XP
    obtain ⟨K, KX, e⟩ := Yy
    exact ⟨K, KX, K31.all_mk KX G hmg e ⟩
