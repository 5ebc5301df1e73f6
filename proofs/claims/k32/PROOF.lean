import PyProof.Rows.All
import Wide.All
import OpenK.AllK
import Wide.FinOn
import Lean
import PyProof.EqAt
import PyProof.EqKinds
import PyProof.TupleCall
import PyProof.ExcArgsOwn
import PyProof.ExcAttrAll.ValueError
import PyProof.ListMulRoad
import PyProof.Rows.Range3
import PySem.Challenge.RW_drawndown_k32_most_steps_of_small_lots
set_option Elab.async false
set_option linter.all false
set_option maxRecDepth 100000
set_option maxHeartbeats 1000000
set_option exponentiation.threshold 5000
open PySem PySem.Spec PyProof.Rows
abbrev _a:=@wpAny_bind
abbrev _b:=@List.getElem?_eq_some_iff
abbrev _c:=@wpAny_pure
abbrev _d:=@Heap.get?_push_of_some
abbrev _e:=@List.getElem?_eq_getElem
abbrev _f:=@if_pos
abbrev _g:=@Nat.le_refl
abbrev _h:=@Heap.get?_push_size
abbrev _i:=@List.length_cons
abbrev _j:=@List.size_toArray
abbrev _k:=@List.getD_eq_getElem?_getD
abbrev _l:=@Heap.lt_size
abbrev _m:=@List.getElem?_cons_succ
abbrev _n:=@List.getElem?_cons_zero
abbrev _o:=@List.getElem?_append_left
abbrev _p:=@List.mem_append_right
abbrev _q:=@if_neg
abbrev _r:=@Nat.lt_of_lt_of_le
abbrev _s:=@List.map_cons
abbrev _t:=@wpAny_mono
abbrev _u:=@List.length_nil
abbrev _v:=@Option.map_eq_some_iff
abbrev _w:=@Option.some.injEq
abbrev _x:=@Nat.ne_of_lt
abbrev _y:=@List.mem_cons_of_mem
abbrev _z:=@List.mem_cons
abbrev _A:=@List.mem_of_getElem?
abbrev _B:=@List.length_map
abbrev _C:=@List.getElem?_set_ne
abbrev _D:=@List.mem_iff_getElem
abbrev _E:=@Bool.and_eq_true
abbrev _F:=@List.mem_map
abbrev _G:=@wpAny_callSpecial?_slot
abbrev _H:=@if_true
abbrev _I:=@wpAny_call_entry
abbrev _J:=@Option.bind_some
abbrev _K:=@Option.some.inj
abbrev _L:=@wpAny_newObj_type
abbrev _M:=@List.mem_cons_self
abbrev _N:=@Bool.false_ne_true
abbrev _O:=@List.getElem?_set_self
abbrev _P:=@List.getElem?_map
abbrev _Q:=@List.lookup_cons
abbrev _R:=@wpAny_field
abbrev _S:=@Option.map_some
abbrev _T:=@List.getElem?_append_right
abbrev _U:=@Nat.le_trans
abbrev _V:=@List.mem_append
abbrev _W:=@Nat.zero_add
abbrev _X:=@List.length_append
abbrev _Y:=@wpAny_setField_rec
abbrev _Z:=@List.mem_singleton
abbrev _aa:=@PyProof.Rows.slot_tuple_getitem
abbrev _ab:=@PySem.mem_of_lookup
abbrev _ac:=@Option.bind_eq_some_iff
abbrev _ad:=@List.mem_append_left
abbrev _ae:=@Nat.zero_le
abbrev _af:=@Nat.pow_le_pow_right
abbrev _ag:=@Classical.byContradiction
abbrev _ah:=@PassesOwn.never
abbrev _ai:=@Option.isSome_iff_exists
abbrev _aj:=@Nat.lt_succ_of_lt
abbrev _ak:=@if_false
abbrev _al:=@Heap.size_push
abbrev _am:=@Nat.lt_irrefl
abbrev _an:=@F.slot_dict_valueiterator_next
abbrev _ao:=@List.replicate_succ
abbrev _ap:=@Heap.SameBut.update
abbrev _aq:=@wpAny_truthy_bool
abbrev _ar:=@List.reverse_cons
abbrev _as:=@wpAny_loadPart_at
abbrev _at:=@decide_eq_true_eq
abbrev _au:=@wpAny_holding
abbrev _av:=@List.eq_of_mem_replicate
abbrev _aw:=@F.slot_dict_keyiterator_next
abbrev _ax:=@wpAny_Call_Name_kw
abbrev _ay:=@beq_iff_eq
abbrev _az:=@Bool.false_eq_true
abbrev _aA:=@PyProof.Rows.callWith_type1
abbrev _aB:=@List.mem_range
abbrev _aC:=@congrArg
abbrev _aD:=@SeqAt.canLay_of_shaped
abbrev _aE:=@wpAny_loadPart'
abbrev _aF:=@List.drop_eq_getElem_cons
abbrev _aG:=@List.set_append_right
abbrev _aH:=@Option.getD_some
abbrev _aI:=@List.ext_getElem
abbrev _aJ:=@wpAny_standAt
abbrev _aK:=@List.map_map
abbrev _aL:=@wpAny_typeNameOfWhole_keyiter
abbrev _aM:=@wpAny_typeNameOfWhole_valiter
abbrev _aN:=@List.length_eq_zero_iff
abbrev _aO:=@Function.comp_def
abbrev _aP:=@List.append_nil
abbrev _aQ:=@List.nil_append
abbrev _aR:=@Array.length_toList
abbrev _aS:=@Calls.callWith_builtin
abbrev _aT:=@Nat.lt_succ_self
abbrev _aU:=@List.set_cons_zero
abbrev _aV:=@List.set_cons_succ
abbrev _aW:=@F.slot_tuple_iterator_next
abbrev _aX:=@wpAny_seqItems
abbrev _aY:=@PySem.F.slot_dict_get
abbrev _aZ:=@List.getElem?_eq_none
abbrev _a0:=@decide_eq_false
abbrev _a1:=@wpAny_passesOwn
abbrev _a2:=@List.foldl_cons
abbrev _a3:=@List.find?_cons
abbrev _a4:=@Int.emod_nonneg
abbrev _a5:=@Ne.symm
abbrev _a6:=@Calls.evalArgs_plain
abbrev _a7:=@List.flatten_cons
abbrev _a8:=@List.append_assoc
abbrev _a9:=@wpAny_dictEntries
abbrev _ba:=@wpAny_comprehension_free
abbrev _bb:=@wpAny_attempt
abbrev _bc:=@List.map_congr_left
abbrev _bd:=@W.kia_one
abbrev _be:=@List.getElem?_replicate
abbrev _bf:=@PySem.F.plainAttrs_list
abbrev _bg:=@List.all_eq_true
abbrev _bh:=@tupleKind_room_in1
abbrev _bi:=@Int.emod_lt_of_pos
abbrev _bj:=@List.mem_filter
abbrev _bk:=@wpAny_dictEpoch
abbrev _bl:=@W.kia_tup
abbrev _bm:=@Heap.get?_update_self
abbrev _bn:=@F.slot_enumerate_next
abbrev _bo:=@Int.toNat_natCast
abbrev _bp:=@wpAny_setField
abbrev _bq:=@PySem.F.excBase_ValueError
abbrev _br:=@List.getElem_inj
abbrev _bs:=@List.cons_append
abbrev _bt:=@List.not_mem_nil
abbrev _bu:=@List.filterMap_cons
abbrev _bv:=@List.filter_eq_self
abbrev _bw:=@List.getElem?_take_of_lt
abbrev _bx:=@PySem.F.args_tuple_add_2
abbrev _by:=@List.any_cons
abbrev _bz:=@Prod.mk.injEq
abbrev _bA:=@List.nodup_cons
abbrev _bB:=@List.of_mem_zip
abbrev _bC:=@List.length_set
abbrev _bD:=@List.mem_filterMap
abbrev _bE:=@Calls.spliced_cons
abbrev _bF:=@List.lookup_append
abbrev _bG:=@Int.lt_of_lt_of_le
abbrev _bH:=@PySem.F.entry_tuple_add
abbrev _bI:=@PySem.F.plainAttrs_dict
abbrev _bJ:=@List.set_eq_take_append_cons_drop
abbrev _bK:=@wpAny_assign_Name
abbrev _bL:=@PySem.F.slot_tuple_add
abbrev _bM:=@subscriptTail_builtinR
abbrev _bN:=@wpAny_Call_method_late
abbrev _bO:=@PySem.F.entry_dict_get
abbrev _bP:=@Heap.get?_push_ne
abbrev _bQ:=@F.args_dict_valueiterator_next_1
abbrev _bR:=@F.entry_dict_valueiterator_next
abbrev _bS:=@List.length_replicate
abbrev _bT:=@exec_Assign_Name_used
abbrev _bU:=@F.typeOf_object_class
abbrev _bV:=@wpAny_isOneOf_valiter
abbrev _bW:=@Int.mul_ediv_add_emod
abbrev _bX:=@wpAny_eqBool_int
abbrev _bY:=@List.length_take
abbrev _bZ:=@call_meets
abbrev _b0:=@wpAny_rule
abbrev _b1:=@List.drop_length
abbrev _b2:=@wpAny_isInstance
abbrev _b3:=@List.getElem_mem
abbrev _b4:=@F.args_dict_keyiterator_next_1
abbrev _b5:=@List.filter_cons
abbrev _b6:=@Paired.length
abbrev _b7:=@listUpdate_at
abbrev _b8:=@List.map_drop
abbrev _b9:=@wpAny_updateSeq_pair
abbrev _ca:=@F.entry_dict_keyiterator_next
abbrev _cb:=@Nat.mul_le_mul_right
abbrev _cc:=@Int.natAbs_of_nonneg
abbrev _cd:=@wpAny_execs_nil
abbrev _ce:=@pushCells_keeps
abbrev _cg:=@F.slot_zip_next
abbrev _ch:=@Int.le_antisymm
abbrev _ci:=@List.map_append
abbrev _ck:=@List.getElem?_range
abbrev _cl:=@List.length_pos_iff
abbrev _cm:=@Nat.pow_le_pow_left
abbrev _cn:=@Nat.ne_of_gt
abbrev _co:=@codeAny_mono
abbrev _cp:=@List.map_nil
abbrev _cr:=@decide_false
abbrev _cs:=@Calls.Constant_str
abbrev _cv:=@decide_eq_true
abbrev _cw:=@wpAny_newTuple
abbrev _cx:=@isSubtype_stop
abbrev _cy:=@List.getElem_idxOf
abbrev _cz:=@wpAny_fieldsOf
abbrev _cA:=@List.drop_zero
abbrev _cB:=@List.filter_append
abbrev _cI:=@sizeLine_eq
abbrev _cJ:=@Calls.spliced_nil
abbrev _cK:=@List.take_sublist
abbrev _cL:=@slot_list_getitem
abbrev _cM:=@Nat.le_of_succ_le
abbrev _cN:=@Option.isSome_map
abbrev _cO:=@List.nodup_append
abbrev _cP:=@Int.le_refl
abbrev _cQ:=@Nat.le_succ
abbrev _cR:=@seqEpoch_at
abbrev _cS:=@Nat.le_succ_of_le
abbrev _cT:=@bne_self_eq_false
abbrev _cU:=@List.pairwise_map
abbrev _cV:=@decide_true
abbrev _cW:=@List.length_range
abbrev _cX:=@List.take_add_one
abbrev _cZ:=@wpAny_onRaise
abbrev _c2:=@wpAny_newList
abbrev _c5:=@List.map_take
abbrev _c6:=@W.cellsFrom_some
abbrev _c7:=@noFill_tuple_add
abbrev _c8:=@List.length_drop
abbrev _c9:=@Option.getD_none
abbrev _db:=@List.prefix_refl
abbrev _dc:=@List.zipIdx_cons
abbrev _dd:=@Nat.le_add_right
abbrev _df:=@List.mem_toArray
abbrev _dj:=@List.any_eq_true
abbrev _dk:=@List.take_length
abbrev _dl:=@Nat.le_of_lt
abbrev _ds:=@Nat.pow_succ
noncomputable section
namespace Dd
def dArgs(s:Stmt):Arguments:=match s with
 | .FunctionDef _ a _ _ _ _ _ _ _ _=>a | _=>{posonlyargs:=[],args:=[],vararg:=none,kwonlyargs:=[],kw_defaults:=[],kwarg:=none,defaults:=[]}
def zhG(s:Stmt):List Stmt:=match s with
 | .FunctionDef _ _ b _ _ _ _ _ _ _=>b | _=>[]
def ze3(s:Stmt):Scope:=match s with
 | .FunctionDef _ _ _ _ _ _ sc _ _ _=>sc | _=>{kind:=.function,names:=[],isGenerator:=false,isCoroutine:=false}
def z6X(h:Heap)(a:Addr):W.Frag:=match h.get? a with | some o=>[(a,o)] | none=>[]
def zkW(h:Heap)(g:W.Frag)(x:Str):W.Frag:=match W.nsIn g mainGlobals x with
 | some (some (.ref f))=>z6X h f++(match h.get? f with
   | some ⟨_,_,.func fd,_⟩=>(match fd.code with | .ref c=>z6X h c | _=>[]) | some ⟨_,_,.cls cd,_⟩=>z6X h cd.ns | _=>[]) | _=>[]
def gat(h:Heap)(ns:List Str):W.Frag:=z6X h mainGlobals++ns.flatMap (zkW h (z6X h mainGlobals))
abbrev FV:=Str×Str×Arguments×FuncBody×Scope×Addr×List (Str×Addr)×Value×Addr×Bool×Bool
def zg9(K:W.Frag)(x:Str):Option FV:=match W.nsIn K mainGlobals x with
 | some (some (.ref f))=>(match K.lookup f with
   | some ⟨_,_,.func fd,_⟩=>some (fd.name,fd.qualname,fd.params,fd.body,fd.scope,fd.globals,fd.closure,fd.defaults,fd.builtins,W.codeIn K fd.code fd.qualname,W.keepIn K (.ref f)) | _=>none) | _=>none
def zjN(x:Str)(st:Stmt):Option FV:=some (x,x,dArgs st,.stmts (zhG st),ze3 st,mainGlobals,[],.none,builtinsNs,true,true)
def zfx(K:W.Frag)(x:Str):Bool:=match W.nsIn K mainGlobals x with | some none=>true | _=>false
def zgA(K:W.Frag)(x:Str):Option Int:=match W.nsIn K mainGlobals x with | some (some (.int i _))=>some i | _=>none
def sameRef:Value->Option (Option Value)->Bool
 | .ref f,some (some (.ref g))=>f==g | _,_=>false
def zbH:Value->Option Str
 | .str k _=>some k | _=>none
def z5J:Value->Bool
 | .type c=>c=="dict" | _=>false
def z8K(K:W.Frag):List DictEntry->List Str->List (Int×Option Str×Bool)
 | e::es,y::ys=>(e.hash,zbH e.key,sameRef e.val (W.nsIn K mainGlobals y))::z8K K es ys | [],[]=>[] | _,_=>[(0,none,false)]
def zg1(K:W.Frag)(x:Str)(ys:List Str):Option (Bool×Bool×Bool×Bool×List (Int×Option Str×Bool)):=match W.nsIn K mainGlobals x with
 | some (some (.ref a))=>(match K.lookup a with
   | some ⟨c,d,.dict es _,sl⟩=>some (z5J c,d.isNone,sl.size==0,a==sysModules,z8K K es.toList ys) | _=>none) | _=>none
def zjC(w:World)(tb:List (Str×Str)):Option (Bool×Bool×Bool×Bool×List (Int×Option Str×Bool)):=some (true,true,true,false,tb.map fun p=>(PyData.keyHash w.params p.1,some p.1,true))
def ziw:List Value->Option (List Int)
 | []=>some [] | .int i _::r=>(ziw r).map (i::·) | _=>none
def zcv:Value->Bool
 | .type c=>c=="tuple" | _=>false
def zjv(K:W.Frag)(x:Str):Option (Bool×Option (List Int)):=match W.nsIn K mainGlobals x with
 | some (some (.ref a))=>(match K.lookup a with
   | some ⟨c,_,.seq its _,_⟩=>some (zcv c,ziw its.toList) | _=>none) | _=>none
def bmV:List Value:=[.type "ValueError",.type "Exception",.type "BaseException",.type "object"]
def z2n(K:W.Frag)(C:Addr):Bool:=match K.lookup C with | some ⟨.type t,_,.cls _,_⟩=>t=="type" | _=>false
def z3S(K:W.Frag)(x:Str):Bool:=match W.nsIn K mainGlobals x with
 | some (some (.ref C))=>W.excIn K C bmV "ValueError.__new__"&&(W.findIn K (.ref C) "__getattribute__"==some (some (.builtin "BaseException.__getattribute__"))&&(W.findIn K (.ref C) "__getattr__"==some none && (W.findIn K (.ref C) "__class__"==some (some (.builtin "object.__class__"))&&(W.mroIn K C (.type "object")==some true&&(W.mroIn K C (.type "BaseException")==some true&&(z2n K C&&W.kitOne K (.ref C) (.type "ValueError")==some true)))))) | _=>false
def z3l(K:W.Frag)(x y:Str):Option (Option Bool×Option Bool):=match W.nsIn K mainGlobals x,W.nsIn K mainGlobals y with
 | some (some (.ref C)),some (some (.ref D))=>some (W.mroIn K C (.ref D),W.kitOne K (.ref C) (.ref D)) | _,_=>none
abbrev Obs:=List (Option FV)×List Bool×List (Option Int)×List (Option (Bool×Bool×Bool×Bool×List (Int×Option Str×Bool)))×List (Option (Bool×Option (List Int)))×List Bool×List (Option (Option Bool×Option Bool))
structure Ask where
 fs:List (Str×Stmt)
 bs:List Str
 cs:List (Str×Int)
 ts:List (Str×List (Str×Str))
 us:List (Str×List Int)
 xs:List Str
 ps:List ((Str×Str)×Bool)
def z9x(q:Ask)(K:W.Frag):Obs:=(q.fs.map fun p=>zg9 K p.1,q.bs.map (zfx K),q.cs.map fun p=>zgA K p.1,q.ts.map (fun p=>zg1 K p.1 (p.2.map (·.2))),q.us.map (fun p=>zjv K p.1),q.xs.map (z3S K),q.ps.map fun p=>z3l K p.1.1 p.1.2)
def obsS(q:Ask)(s:Shared):Obs:=z9x q (gat s.heap (q.fs.map (·.1)++q.ts.map (·.1)++q.us.map (·.1)++q.xs))
def valS(q:Ask)(w:World):Obs:=(q.fs.map fun p=>zjN p.1 p.2,q.bs.map fun _=>true,q.cs.map fun p=>some p.2,q.ts.map (fun p=>zjC w p.2),q.us.map (fun p=>some (true,some p.2)),q.xs.map fun _=>true,q.ps.map fun p=>some (some p.2,some p.2))
def z2r(tb:String->Option Builtin)(p:Program)(w:World)(n₀:Nat)(ann:Option Value):Nat->W.SharedT->Thread->Option W.SharedT
 | 0,_,_=>none | n+1,s,t=>match W.through t with
  | true=>some s | false=>match W.stepOk n₀ ann t with
   | false=>none | true=>match W.stepT (denote tb) p w s t with
    | some (s',t')=>z2r tb p w n₀ ann n s' t' | none=>none
def zhq(l:List Obj):W.BT×Nat:=l.foldl (fun a o=>(a.1.ins a.2 o,a.2+1)) (W.BT.nil,0)
def zhb(P:Params):W.BT:=(zhq (W.boot_heap P).objs.toList).1
end Dd
namespace K32
open Dd
def top(i:Nat):Stmt:=PySem.Challenge.pw_drawndown_k32_most_steps_of_small_lots.main.body.getD i (.Pass ⟨0,0,0,0⟩)
abbrev jV:Stmt:=top 22
abbrev jQ:Stmt:=top 24
abbrev wx:Stmt:=top 27
abbrev yU:Stmt:=top 33
abbrev ud:Stmt:=top 34
abbrev z0u:Stmt:=top 35
abbrev z02:Stmt:=top 41
abbrev z4E:Stmt:=top 47
abbrev vt:Stmt:=top 53
abbrev jY:Stmt:=top 54
abbrev qX:Stmt:=top 55
abbrev uH:Stmt:=top 56
abbrev qA:Stmt:=top 57
abbrev uF:Stmt:=top 58
abbrev vo:Stmt:=top 61
abbrev qg:Stmt:=top 62
abbrev uK:Stmt:=top 65
abbrev uD:Stmt:=top 23
abbrev vZ:Stmt:=top 25
abbrev qU:Stmt:=top 26
abbrev z0f:Stmt:=top 36
abbrev jM:Stmt:=top 37
abbrev z1Q:Stmt:=top 38
abbrev z0r:Stmt:=top 39
abbrev vN:Stmt:=top 42
abbrev jN:Stmt:=top 59
abbrev vF:Stmt:=top 60
abbrev vL:Stmt:=top 63
abbrev z2C:Stmt:=top 29
abbrev jU:Stmt:=top 46
abbrev jK:Stmt:=top 30
abbrev qC:Stmt:=top 31
abbrev xq:Stmt:=top 43
abbrev qT:Stmt:=top 44
abbrev z6S:Stmt:=top 45
abbrev vA:Stmt:=top 51
abbrev qc:Stmt:=top 50
abbrev qB:Stmt:=top 64
abbrev z3e:Stmt:=top 66
def z8r:List (Str×Str):=[("next","by_next"),("least","by_least"),("all","by_all"),("turn","by_turn")]
def askQ:Ask:=⟨[(("is_whole":Str),jV), (("has_size":Str),jQ), (("tuples_between":Str),wx), (("greatest_and_others":Str),yU), (("least_place":Str),ud), (("all_but":Str),z0u), (("is_rule":Str),z02), (("moved":Str),z4E), (("_law_cell_at":Str),vt), (("_law_pot":Str),jY), (("_law_take":Str),qX), (("_law_rules":Str),uH), (("_law_step":Str),qA), (("_law_ended":Str),uF), (("_law_kind_of":Str),vo), (("_law_whole":Str),qg), (("_law_every":Str),uK), (("are_wholes":Str),uD), (("want_number":Str),vZ), (("want_size":Str),qU), (("by_next":Str),z0f), (("by_least":Str),jM), (("by_all":Str),z1Q), (("by_turn":Str),z0r), (("want_rule":Str),vN), (("_law_run":Str),jN), (("_law_no_rule":Str),vF), (("_law_same":Str),vL), (("is_lot":Str),z2C), (("division":Str),jU), (("want_lot":Str),jK), (("has_ended":Str),qC), (("want_rule_and_lot":Str),xq), (("want_step":Str),qT), (("step":Str),z6S), (("steps_of_all":Str),vA), (("most_steps":Str),qc), (("_law_told":Str),qB), (("law":Str),z3e)], [("ValueError":Str),("all":Str),("bool":Str),("enumerate":Str),("int":Str),("isinstance":Str),("len":Str),("list":Str),("max":Str),("min":Str),("range":Str),("sorted":Str),("str":Str),("tuple":Str),("zip":Str)], [(("LEAST_SIZE":Str),(2:Int)),(("MOST_NUMBER":Str),(8:Int)),(("MOST_SIZE":Str),(4:Int))], [(("RULES":Str),z8r)], [], [("DrawError":Str),("Ended":Str),("NoBottom":Str),("NoCube":Str),("NoDeed":Str),("NoLot":Str),("NoNumber":Str),("NoRoot":Str),("NoRow":Str),("NoRule":Str),("NoSize":Str),("NoStep":Str),("NoTable":Str),("NoText":Str),("NoTuple":Str),("NotAlike":Str),("NotFair":Str),("TooMany":Str)], [((("NoNumber":Str),("NoLot":Str)),false),((("NoNumber":Str),("NoTable":Str)),false),((("NoNumber":Str),("NoTuple":Str)),false),((("NoNumber":Str),("NotAlike":Str)),false),((("NoNumber":Str),("NotFair":Str)),false),((("NoNumber":Str),("NoText":Str)),false),((("NoNumber":Str),("NoRule":Str)),false),((("NoNumber":Str),("Ended":Str)),false),((("NoNumber":Str),("NoBottom":Str)),false),((("NoNumber":Str),("NoRoot":Str)),false),((("NoNumber":Str),("NoCube":Str)),false),((("NoNumber":Str),("NoSize":Str)),false),((("NoNumber":Str),("NoNumber":Str)),true),((("NoNumber":Str),("TooMany":Str)),false),((("NoNumber":Str),("NoStep":Str)),false),((("NoNumber":Str),("NoDeed":Str)),false),((("NoNumber":Str),("NoRow":Str)),false),((("NoRule":Str),("NoLot":Str)),false),((("NoRule":Str),("NoTable":Str)),false),((("NoRule":Str),("NoTuple":Str)),false),((("NoRule":Str),("NotAlike":Str)),false),((("NoRule":Str),("NotFair":Str)),false),((("NoRule":Str),("NoText":Str)),false),((("NoRule":Str),("NoRule":Str)),true),((("NoRule":Str),("Ended":Str)),false),((("NoRule":Str),("NoBottom":Str)),false),((("NoRule":Str),("NoRoot":Str)),false),((("NoRule":Str),("NoCube":Str)),false),((("NoRule":Str),("NoSize":Str)),false),((("NoRule":Str),("NoNumber":Str)),false),((("NoRule":Str),("TooMany":Str)),false),((("NoRule":Str),("NoStep":Str)),false),((("NoRule":Str),("NoDeed":Str)),false),((("NoRule":Str),("NoRow":Str)),false),((("NoSize":Str),("NoLot":Str)),false),((("NoSize":Str),("NoTable":Str)),false),((("NoSize":Str),("NoTuple":Str)),false),((("NoSize":Str),("NotAlike":Str)),false),((("NoSize":Str),("NotFair":Str)),false),((("NoSize":Str),("NoText":Str)),false),((("NoSize":Str),("NoRule":Str)),false),((("NoSize":Str),("Ended":Str)),false),((("NoSize":Str),("NoBottom":Str)),false),((("NoSize":Str),("NoRoot":Str)),false),((("NoSize":Str),("NoCube":Str)),false),((("NoSize":Str),("NoSize":Str)),true),((("NoSize":Str),("NoNumber":Str)),false),((("NoSize":Str),("TooMany":Str)),false),((("NoSize":Str),("NoStep":Str)),false),((("NoSize":Str),("NoDeed":Str)),false),((("NoSize":Str),("NoRow":Str)),false),((("NoNumber":Str),("DrawError":Str)),true),((("NoRule":Str),("DrawError":Str)),true),((("NoSize":Str),("DrawError":Str)),true)]⟩
def qv:Program:=W.view PySem.Challenge.pw_drawndown_k32_most_steps_of_small_lots [66]
def looseQ:List Str:=[("DrawError":Str),("NoLot":Str),("NoTable":Str),("NoTuple":Str),("NotAlike":Str),("NotFair":Str),("NoText":Str),("NoRule":Str),("Ended":Str),("NoBottom":Str),("NoRoot":Str),("NoCube":Str),("NoSize":Str),("NoNumber":Str),("TooMany":Str),("NoStep":Str),("NoDeed":Str),("NoRow":Str),("LEAST_SIZE":Str),("MOST_SIZE":Str),("is_whole":Str),("are_wholes":Str),("has_size":Str),("want_number":Str),("want_size":Str),("tuples_between":Str),("is_lot":Str),("want_lot":Str),("has_ended":Str),("greatest_and_others":Str),("least_place":Str),("all_but":Str),("by_next":Str),("by_least":Str),("by_all":Str),("by_turn":Str),("RULES":Str),("is_rule":Str),("want_rule":Str),("want_rule_and_lot":Str),("want_step":Str),("step":Str),("division":Str),("moved":Str),("MOST_NUMBER":Str),("most_steps":Str),("steps_of_all":Str),("_law_cell_at":Str),("_law_pot":Str),("_law_take":Str),("_law_rules":Str),("_law_step":Str),("_law_ended":Str),("_law_run":Str),("_law_no_rule":Str),("_law_kind_of":Str),("_law_whole":Str),("_law_same":Str),("_law_told":Str),("_law_every":Str)]
def lvQ:List (Str×W.WData):=[]
def xtQ:Shared->Bool:=fun s=>W.xlAt qv lvQ s&&W.recOk (W.RowW.records (W.OpenRow.toRowW (W.OpenLaw.row PySem.Challenge.rw_drawndown_k32_most_steps_of_small_lots))) s
theorem zkP:∀ w:World,W.absHeap (zhb w.params) 11 (W.boot_heap w.params).life=W.boot_heap w.params:=by
 intro w;kernel_rfl
theorem bsz:∀ w:World,((W.boot_heap w.params).isNs mainGlobals&&(Array.mk []:Array GenState).size==0,(W.boot_heap w.params).objs.size,(W.boot_heap w.params).nsMap mainGlobals "__annotations__")=(true,11,(some (.ref 6))):=by
 intro w;kernel_rfl
def zjb(w v:World)(os:OsState):Option W.SharedT:=z2r treeTable PySem.Challenge.pw_drawndown_k32_most_steps_of_small_lots v 11 (some (.ref 6)) 10306 ⟨zhb w.params,11,(W.boot_heap w.params).life,Array.mk [],W.boot_drawn,W.boot_toks,os⟩ (W.topStub PySem.Challenge.pw_drawndown_k32_most_steps_of_small_lots)
def zij(w:World)(s:W.SharedT):Bool:=W.staticsOk (importedModules PySem.Challenge.pw_drawndown_k32_most_steps_of_small_lots.main.body) (W.boot_heap w.params) s.abs.heap&&W.namesBound PySem.Challenge.pw_drawndown_k32_most_steps_of_small_lots s.abs.heap&&W.gensDone s.abs&&W.laidKept (W.boot_heap w.params) s.abs.heap
def seenQ(s:Shared):=W.openSeen qv looseQ (importedModules PySem.Challenge.pw_drawndown_k32_most_steps_of_small_lots.main.body) xtQ true s
set_option maxRecDepth 1000000 in
theorem z51:∀ (w:World)(os:OsState),(zjb w (w.withFollow "special-get-raises" false) os).map (fun s=>(zij w s,obsS askQ s.abs))=some (true,valS askQ (w.withFollow "special-get-raises" false)):=by
 intro w os;kernel_rfl
set_option maxRecDepth 1000000 in
theorem z5G:∀ (w:World)(os:OsState),(zjb w (w.withFollow "special-get-raises" false) os).map (fun s=>seenQ s.abs)=some (W.openGood qv looseQ):=by
 intro w os;kernel_rfl
set_option maxRecDepth 1000000 in
theorem z7c:∀ (w:World)(os:OsState),(zjb w (w.withFollow "special-get-raises" true) os).map (fun s=>(zij w s,obsS askQ s.abs))=some (true,valS askQ (w.withFollow "special-get-raises" true)):=by
 intro w os;kernel_rfl
set_option maxRecDepth 1000000 in
theorem z7r:∀ (w:World)(os:OsState),(zjb w (w.withFollow "special-get-raises" true) os).map (fun s=>seenQ s.abs)=some (W.openGood qv looseQ):=by
 intro w os;kernel_rfl
end K32
namespace L2
abbrev Key:=Sum Int Str
def z4z:Key->Value->Bool
 | .inl k,v=>Value.isInt k v | .inr x,v=>Value.isStrOf x v
def zm1(w:World):Key->Int
 | .inl k=>hashInt k | .inr x=>hashStr w x
theorem yg:∀ {k:Key} {v:Value},z4z k v=true->(∃ i t,k=Sum.inl i/\v=Value.int i t)\/(∃ x t,k=Sum.inr x/\v=Value.str x t)
 | .inl i,v,h=>by
  obtain ⟨t,e⟩:=Value.isInt_shape (k:=i) (v:=v) h;exact .inl ⟨i,t,rfl,e⟩ | .inr x,v,h=>by
  obtain ⟨t,e⟩:=Value.isStrOf_shape (x:=x) (v:=v) h;exact .inr ⟨x,t,rfl,e⟩
theorem z9P(i:Int)(t:Tok):z4z (.inl i) (.int i t)=true:=by simp [z4z,Value.isInt]
theorem z2p(x:Str)(t:Tok):z4z (.inr x) (.str x t)=true:=by simp [z4z,Value.isStrOf]
theorem ziL(a b:Int):decide ((Sum.inl a:Key)=Sum.inl b)=(a==b):=by
 by_cases e:a=b;·subst e;simp
 ·have h:¬ (Sum.inl a:Key)=Sum.inl b:=fun q=>e (Sum.inl.inj q);rw [_a0 h];exact (beq_eq_false_iff_ne.mpr e).symm
theorem ziS(a b:Str):decide ((Sum.inr a:Key)=Sum.inr b)=decide (a=b):=by
 by_cases e:a=b;·subst e;simp
 ·have h:¬ (Sum.inr a:Key)=Sum.inr b:=fun q=>e (Sum.inr.inj q);rw [_a0 h,_a0 e]
theorem zhm(a:Int)(b:Str):decide ((Sum.inl a:Key)=Sum.inr b)=false:=_a0 (fun q=>nomatch q)
theorem zhr(a:Str)(b:Int):decide ((Sum.inr a:Key)=Sum.inl b)=false:=_a0 (fun q=>nomatch q)
def zG(prog:Program)(w:World):PySem.KeyKind prog w Key where
 is:=z4z;hash:=zm1 w;inj:=fun v a b ha hb=>by
  rcases yg ha with ⟨i,t,rfl,rfl⟩ | ⟨x,t,rfl,rfl⟩
  ·rcases yg hb with ⟨j,u,rfl,e⟩ | ⟨y,u,rfl,e⟩;·injection e with e1 _;rw [e1]
   ·exact nomatch e
  ·rcases yg hb with ⟨j,u,rfl,e⟩ | ⟨y,u,rfl,e⟩;·exact nomatch e
   ·injection e with e1 _;rw [e1]
 byValue:=fun k v h=>by rcases yg h with ⟨i,t,rfl,rfl⟩ | ⟨x,t,rfl,rfl⟩<;>rfl
 pyHash:=fun hv h=>by
  rcases yg hv with ⟨i,t,rfl,rfl⟩ | ⟨x,t,rfl,rfl⟩;·exact wpAny_pyHash_int h
  ·exact wpAny_pyHash_str h
 eqBool:=fun hu hv h=>by
  rcases yg hu with ⟨i,t,rfl,rfl⟩ | ⟨x,t,rfl,rfl⟩
  ·rcases yg hv with ⟨j,u,rfl,rfl⟩ | ⟨y,u,rfl,rfl⟩;·rw [ziL] at h;exact _bX h
   ·rw [zhm] at h;exact SeqAt.EqAt.int_str i t y u _ _ _ _ h
  ·rcases yg hv with ⟨j,u,rfl,rfl⟩ | ⟨y,u,rfl,rfl⟩;·rw [zhr] at h;exact SeqAt.EqAt.str_int x t j u _ _ _ _ h
   ·rw [ziS] at h;exact wpAny_eqBool_str h
 «strs» := fun k x t v h=>by
  rcases yg h with ⟨i,u,rfl,e⟩ | ⟨y,u,rfl,e⟩;·exact nomatch e
  ·injection e with e1 _;subst e1;cases v<;>rfl
theorem z3c(prog:Program)(w:World)(k:Key)(v:Value):(zG prog w).is k v=z4z k v:=rfl
theorem z6I(prog:Program)(w:World)(i:Int)(t:Tok):(zG prog w).is (.inl i) (.int i t)=true:=z9P i t
theorem z1W(prog:Program)(w:World)(x:Str)(t:Tok):(zG prog w).is (.inr x) (.str x t)=true:=z2p x t
inductive V where | non | bl (b:Bool) | int (i:Int) | str (x:Str) | byt (b:Array UInt8) | flt (b:UInt64) | ref (a:Addr) | ty (n:String) deriving DecidableEq
def yu:V->Value->Prop
 | .non,u=>u=Value.none | .bl b,u=>u=Value.bool b | .int i,u=>∃ t,u=Value.int i t | .str x,u=>∃ t,u=Value.str x t | .byt b,u=>∃ t,u=Value.bytes b t | .flt b,u=>∃ t,u=Value.float b t | .ref a,u=>u=Value.ref a | .ty n,u=>u=Value.type n
abbrev ym:List V->List Value->Prop:=Paired yu
theorem ym.length{xs:List V}{us:List Value}(r:ym xs us):xs.length=us.length:=_b6 r
theorem ym.get:∀ {xs:List V} {us:List Value} {i:Nat} {x:V},ym xs us->xs[i]? = some x->∃ u,us[i]? = some u/\yu x u
 | _,_,_,_,.nil,e=>by simp at e | _,_,0,_,.cons r _,e=>by simp at e;subst e;exact ⟨_,rfl,r⟩ | _,_,i+1,x,.cons _ t,e=>by
  obtain ⟨u,h1,h2⟩:=ym.get (i:=i) (x:=x) t (by simpa using e);exact ⟨u,by simpa using h1,h2⟩
theorem ym.set{x:V}{u:Value}(r:yu x u):∀ {xs:List V}{us:List Value}(i:Nat),ym xs us->ym (xs.set i x) (us.set i u)
 | _,_,_,.nil=>.nil | _,_,0,.cons _ t=>.cons r t | _,_,i+1,.cons q t=>.cons q (ym.set r i t)
theorem ym.append:∀ {xs ys:List V}{us ws:List Value},ym xs us->ym ys ws->ym (xs++ys) (us++ws)
 | _,_,_,_,.nil,s=>s | _,_,_,_,.cons r t,s=>.cons r (ym.append t s)
theorem ym.take:∀ {xs:List V}{us:List Value}(n:Nat),ym xs us->ym (xs.take n) (us.take n)
 | _,_,0,_=>.nil | _,_,_+1,.nil=>.nil | _,_,n+1,.cons r t=>.cons r (ym.take n t)
theorem ym.drop:∀ {xs:List V}{us:List Value}(n:Nat),ym xs us->ym (xs.drop n) (us.drop n)
 | _,_,0,r=>r | _,_,_+1,.nil=>.nil | _,_,n+1,.cons _ t=>ym.drop n t
def z9t:Option V->Option Value->Prop
 | some v,some u=>yu v u | none,none=>True | _,_=>False
def KV{κ:Type}:List (κ×V)->List (κ×Value)->Prop:=Paired fun (p:κ×V)(q:κ×Value)=>p.1=q.1/\yu p.2 q.2
def kV:Key->V
 | .inl i=>.int i | .inr x=>.str x
inductive HO where | lst (xs:List V) | tup (xs:List V) | dK (kvs:List (Key×V)) | dT (kvs:List (List Key×V)) | set (S:Int->Bool)(n:Nat) | ins (C dx:Addr)(fs:List (Str×V)) | own (x:Addr) | xd (fs:List (Str×V)) | met (f x:Addr) | rng (lo hi:Int) | frz (o:Obj)(u:HO) | tbl (ps:Array Value) | ext (φ:Heap->Prop)
abbrev Hp:=Addr->Option HO
def upd(H:Hp)(a:Addr)(o:HO):Hp:=fun b=>if b=a then some o else H b
theorem zC{H:Hp}{a:Addr}{o:HO}:upd H a o a=some o:=by unfold upd;rw [_f rfl]
theorem zx{H:Hp}{a b:Addr}{o:HO}(h:b≠a):upd H a o b=H b:=by unfold upd;rw [_q h]
theorem zfa{H:Hp}{a:Addr}{o u:HO}:upd (upd H a o) a u=upd H a u:=by funext b;unfold upd;split<;>rfl
theorem zju{H:Hp}{a b:Addr}{o u:HO}(h:H a=some o)(h':H b=some u)(d:o≠u):a≠b:=by intro e;subst e;rw [h] at h';exact d (_K h')
theorem yw{H:Hp}{a b:Addr}{o:HO}(h:H a=some o)(h':H b=none):a≠b:=by intro e;subst e;rw [h] at h';cases h'
def zc2(h:Heap)(a:Addr)(items:Array Value):Prop:=∃ o,h.get? a=some o/\o.cls=.type "tuple"/\o.dict=none/\∃ n,o.data=.seq items n
theorem zc2.tup{h:Heap}{a:Addr}{items:Array Value}(x:zc2 h a items):IsTup h a items:=let ⟨o,e,c,_,r⟩:=x;⟨o,e,c,r⟩
theorem zc2.new(h:Heap)(items:Array Value):zc2 (h.push {cls:=.type "tuple",data:=.seq items}) h.objs.size items:=⟨_,_h _ rfl,rfl,rfl,_,rfl⟩
theorem zc2.lt{h:Heap}{a:Addr}{items:Array Value}(x:zc2 h a items):a<h.objs.size:=x.tup.lt
section
variable (P:Program)(w:World)
def yj(H:Hp)(h:Heap)(a:Addr):HO->Prop
 | .lst xs=>xs.length<=sizeLine/\∃ (its:List Value)(n:Nat),ym xs its/\h.get? a=some {cls:=.type "list",data:=.seq its.toArray n} | .tup xs=>xs.length<=sizeLine/\∃ its:List Value,ym xs its/\zc2 h a its.toArray | .dK kvs=>kvs.length<=sizeLine/\(a==sysModules)=false/\∃ vs,KV kvs vs/\h.DictOf (zG P w) a vs | .dT kvs=>kvs.length<=sizeLine/\(a==sysModules)=false/\∃ xs:List (List Key×Addr×Value), Paired (fun (p:List Key×V)(q:List Key×Addr×Value)=>p.1=q.1/\H q.2.1=some (.tup (p.1.map kV))/\yu p.2 q.2.2) kvs xs/\ ∃ o es ep,h.get? a=some o/\o.ExactDict/\o.data=.dict es ep/\es.toList=xs.map (entryOfKey (tupleKind (zG P w)))/\(xs.map (·.1)).Nodup | .set S n=>h.SetOf (intKind P w) a S n | .ins C dx fs=>H dx=some (.own a)/\fs.length<=1000/\dx≠a/\h.get? a=some (W.instObj C dx)/\ ∃ mA,h.Ns1 dx mA/\(∀ f,z9t (fs.lookup f) (mA f))/\PySem.Within mA (fs.map (·.1)) | .own _=>∃ o,h.get? a=some o | .xd fs=>∃ mA,h.Ns1 a mA/\∀ f,z9t (fs.lookup f) (mA f) | .rng lo hi=>∃ t u v,h.get? a=some {cls:=.type "range",data:=.fields #[.int lo t,.int hi u,.int 1 v]} | .frz o u=>h.get? a=some o/\yj H h a u | .tbl ps=>h.get? a=some {cls:=.none,data:=.fields ps} | .met f x=>h.get? a=some (W.methodObj (.ref f) (.ref x)) | .ext φ=>φ h/\(∃ o,h.get? a=some o)/\∀ h1 h2:Heap,φ h1->(∀ o,h1.get? a=some o->h2.get? a=some o)->φ h2
def HOk(H:Hp)(h:Heap):Prop:=∀ a o,H a=some o->yj P w H h a o
end
section
variable {P:Program}{w:World}{H H':Hp}{h h':Heap}{a:Addr}{o:HO}
theorem yj.lt(x:yj P w H h a o):a<h.objs.size:=by cases o with
 | lst xs=>obtain ⟨_,_,_,_,e⟩:=x;exact _l e | tup xs=>obtain ⟨_,_,_,p⟩:=x;exact p.lt | dK kvs=>obtain ⟨_,_,_,_,o,_,_,e,_⟩:=x;exact _l e | dT kvs=>obtain ⟨_,_,_,_,o,_,_,e,_⟩:=x;exact _l e | set S n=>obtain ⟨o,_,_,_,e,_⟩:=x;exact _l e | ins C dx fs=>obtain ⟨_,_,_,e,_⟩:=x;exact _l e | own y=>obtain ⟨_,e⟩:=x;exact _l e | xd fs=>obtain ⟨_,⟨_,_,_,e,_⟩,_⟩:=x;exact _l e | rng lo hi=>obtain ⟨_,_,_,e⟩:=x;exact _l e | frz ob u=>obtain ⟨e,_⟩:=x;exact _l e | tbl ps=>exact _l (show h.get? a=some _ from x) | met f y=>exact _l (show h.get? a=some _ from x) | ext φ=>obtain ⟨_,⟨_,e⟩,_⟩:=x;exact _l e
theorem Paired.mapP{α β:Type}{F G:α->β->Prop}:∀ {l₁:List α}{l₂:List β},Paired F l₁ l₂->(∀ a b,F a b->G a b)->Paired G l₁ l₂
 | _,_,.nil,_=>.nil | _,_,.cons r t,f=>.cons (f _ _ r) (Paired.mapP t f)
theorem yj.stay(x:yj P w H h a o)(k:∀ b u,(b=a\/H b=some (.own a))->h.get? b=some u->h'.get? b=some u) (ho:∀ b,H b=some (.own a)->H' b=some (.own a))(ht:∀ b xs,H b=some (.tup xs)->H' b=some (.tup xs)):yj P w H' h' a o:=by induction o with
 | lst xs=>obtain ⟨z,its,n,r,e⟩:=x;exact ⟨z,its,n,r,k _ _ (.inl rfl) e⟩ | tup xs=>obtain ⟨z,its,r,ob,e,c⟩:=x;exact ⟨z,its,r,ob,k _ _ (.inl rfl) e,c⟩ | dK kvs=>obtain ⟨z,y,vs,r,ob,es,ep,e,c⟩:=x;exact ⟨z,y,vs,r,ob,es,ep,k _ _ (.inl rfl) e,c⟩ | dT kvs=>
  obtain ⟨z,y,xs,r,ob,es,ep,e,c⟩:=x;exact ⟨z,y,xs,Paired.mapP r fun p q z=>⟨z.1,ht _ _ z.2.1,z.2.2⟩,ob,es,ep,k _ _ (.inl rfl) e,c⟩ | set S n=>obtain ⟨ob,es,ep,t,e,c⟩:=x;exact ⟨ob,es,ep,t,k _ _ (.inl rfl) e,c⟩ | ins C dx fs=>
  obtain ⟨d,z,ne,e,mA,⟨od,es,ep,e2,c⟩,r⟩:=x;exact ⟨ho _ d,z,ne,k _ _ (.inl rfl) e,mA,⟨od,es,ep,k _ _ (.inr d) e2,c⟩,r⟩ | own y=>obtain ⟨ob,e⟩:=x;exact ⟨ob,k _ _ (.inl rfl) e⟩ | xd fs=>obtain ⟨mA,⟨od,es,ep,e,c⟩,r⟩:=x;exact ⟨mA,⟨od,es,ep,k _ _ (.inl rfl) e,c⟩,r⟩ | rng lo hi=>obtain ⟨t,u,v,e⟩:=x;exact ⟨t,u,v,k _ _ (.inl rfl) e⟩ | frz ob u ih=>obtain ⟨e,q⟩:=x;exact ⟨k _ _ (.inl rfl) e,ih q⟩ | tbl ps=>
  have e:h.get? a=some {cls:=.none,data:=.fields ps}:=x;show h'.get? a=some {cls:=.none,data:=.fields ps};exact k a _ (.inl rfl) e | met f y=>
  have e:h.get? a=some (W.methodObj (.ref f) (.ref y)):=x;show h'.get? a=some (W.methodObj (.ref f) (.ref y));exact k a _ (.inl rfl) e | ext φ=>obtain ⟨p,⟨o,e⟩,st⟩:=x;exact ⟨st _ _ p fun o q=>k _ _ (.inl rfl) q,⟨o,k _ _ (.inl rfl) e⟩,st⟩
theorem HOk.lt(x:HOk P w H h)(e:H a=some o):a<h.objs.size:=(x a o e).lt
theorem HOk.fresh(x:HOk P w H h)(e:h.objs.size<=a):H a=none:=by cases q:H a with
 | none=>rfl | some u=>exact absurd (_r (x.lt q) e) (_am _)
theorem HOk.kept(x:HOk P w H h)(k:∀ b u,h.get? b=some u->h'.get? b=some u):HOk P w H h':=fun a o e=> (x a o e).stay (fun b u _ q=>k b u q) (fun _ q=>q) fun _ _ q=>q
theorem HOk.laid(x:HOk P w H h)(k:∀ b u,h.get? b=some u->h'.get? b=some u)(hp:h.objs.size<=a)(new:yj P w (upd H a o) h' a o):HOk P w (upd H a o) h':=fun b u e=>by
 have hn:=x.fresh hp;by_cases hb:b=a;·subst hb;rw [zC] at e;cases e;exact new
 ·rw [zx hb] at e;exact (x b u e).stay (fun c v _ q=>k c v q) (fun c q=>by rw [zx (yw q hn)];exact q) fun c xs q=>by rw [zx (yw q hn)];exact q
end
def Rd(H:Hp)(a:Addr)(u:HO):Prop:=H a=some u\/∃ o,H a=some (.frz o u)
theorem Rd.ok{P:Program}{w:World}{H:Hp}{h:Heap}{a:Addr}{u:HO}(r:Rd H a u)(x:HOk P w H h):yj P w H h a u:=by
 rcases r with r | ⟨o,r⟩;·exact x a u r
 ·obtain ⟨_,q⟩:=x a _ r;exact q
def Mut:Option HO->Prop
 | some (.lst _)=>True | some (.dK _)=>True | some (.dT _)=>True | some (.set _ _)=>True | some (.ins _ _ _)=>True | some (.ext _)=>True | _=>False
section
variable {P:Program}{w:World}{H:Hp}{h h':Heap}{x e:Addr}{o':HO}
theorem HOk.write(ok:HOk P w H h)(mu:Mut (H x))(he:e=x\/H e=some (.own x))(k:∀ b u,b≠e->h.get? b=some u->h'.get? b=some u)(heo:∃ u,h'.get? e=some u) (new:yj P w (upd H x o') h' x o'):HOk P w (upd H x o') h':=fun b u q=>by
 have nown:∀ c y,H c=some (.own y)->c≠x:=fun c y r z=>by subst z;rw [r] at mu;exact mu
 have ntup:∀ c xs,H c=some (.tup xs)->c≠x:=fun c xs r z=>by subst z;rw [r] at mu;exact mu
 by_cases hb:b=x;·subst hb;rw [zC] at q;cases q;exact new
 ·rw [zx hb] at q;by_cases hbe:b=e
  ·have q':H b=some (.own x):=by
    rcases he with z | z;·exact absurd (hbe.trans z) hb
    ·rw [hbe];exact z
   rw [q] at q';cases q';obtain ⟨v,hv⟩:=heo;exact ⟨v,by rw [hbe];exact hv⟩
  ·refine (ok b u q).stay (fun c v hc r=>k c v ?_ r) (fun c r=>by rw [zx (nown c b r)];exact r) fun c xs r=>by rw [zx (ntup c xs r)];exact r
   rcases hc with rfl | hc;·exact hbe
   ·rintro rfl;rcases he with z | z;·exact nown c b hc z
    ·rw [hc] at z;cases z;exact hb rfl
end
structure Un(fs ex:List Addr)(H H':Hp)(h h':Heap):Prop where
 keep:∀ b o,h.get? b=some o->H b=none->b∉fs->b∉ex->h'.get? b=some o
 slot:∀ b o,h.get? b=some o->H b=none->b∈fs->b∉ex->∃ sl,h'.get? b=some {o with slots:=sl}
 free:∀ b o,h.get? b=some o->H b=none->b∉ex->H' b=none
 there:∀ b o,h.get? b=some o->b∉ex->∃ o',h'.get? b=some o'
 tups:∀ b xs,H b=some (.tup xs)->H' b=some (.tup xs)
 frzs:∀ b o u,H b=some (.frz o u)->H' b=some (.frz o u)
 tbls:∀ b ps,H b=some (.tbl ps)->∃ more,H' b=some (.tbl (ps++more))
section
variable {fs fs' ex ex':List Addr}{H H1 H2:Hp}{h h1 h2 h':Heap}{a x e:Addr}{o:HO}
theorem Un.any(u:Un fs ex H H1 h h1){b:Addr}{ob:Obj}(q:h.get? b=some ob)(n:H b=none)(hx:b∉ex):∃ sl,h1.get? b=some {ob with slots:=sl}:=by
 by_cases hb:b∈fs;·exact u.slot b ob q n hb hx
 ·exact ⟨ob.slots,u.keep b ob q n hb hx⟩
theorem Un.kept(k:∀ b u,h.get? b=some u->h'.get? b=some u):Un fs ex H H h h':= ⟨fun b ob q _ _ _=>k b ob q,fun b ob q _ _ _=>⟨ob.slots,k b ob q⟩,fun _ _ _ n _=>n,fun b ob q _=>⟨ob,k b ob q⟩,fun _ _ q=>q,fun _ _ _ q=>q,fun _ ps q=>⟨#[],by rw [q];simp⟩⟩
theorem Un.refl:Un fs ex H H h h:=Un.kept fun _ _ q=>q
theorem Un.laid(k:∀ b u,h.get? b=some u->h'.get? b=some u)(hp:h.objs.size<=a)(hn:H a=none):Un fs ex H (upd H a o) h h' where
 keep:=fun b u q _ _ _=>k b u q;slot:=fun b u q _ _ _=>⟨u.slots,k b u q⟩;free:=fun b u q n _=>by rw [zx (_x (_r (_l q) hp))];exact n
 there:=fun b u q _=>⟨u,k b u q⟩;tups:=fun b xs q=>by rw [zx (yw q hn)];exact q
 frzs:=fun b u xs q=>by rw [zx (yw q hn)];exact q
 tbls:=fun b ps q=>⟨#[],by rw [zx (yw q hn),q];simp⟩
theorem Un.write(mu:Mut (H x))(he:e=x\/H e=some (.own x))(k:∀ b u,b≠e->h.get? b=some u->h'.get? b=some u)(heo:∃ u,h'.get? e=some u):Un fs ex H (upd H x o) h h':=by
 have hx:∀ b,H b=none->b≠x:=fun b n z=>by subst z;rw [n] at mu;exact mu
 have hb:∀ b,H b=none->b≠e:=fun b n z=>by
  subst z;rcases he with r | r;·exact hx b n r
  ·rw [n] at r;cases r
 have hm:∀ b u,H b=some u->¬ Mut (some u)->b≠x:=fun b u q nm z=>by subst z;rw [q] at mu;exact nm mu
 refine ⟨fun b u q n _ _=>k b u (hb b n) q,fun b u q n _ _=>⟨u.slots,k b u (hb b n) q⟩,fun b u q n _=>by rw [zx (hx b n)];exact n,fun b u q _=>?_, fun b xs q=>by rw [zx (hm b _ q fun z=>z)];exact q,fun b u xs q=>by rw [zx (hm b _ q fun z=>z)];exact q,fun b ps q=>⟨#[],by rw [zx (hm b _ q fun z=>z),q];simp⟩⟩;by_cases hbe:b=e;·subst hbe;exact heo
 ·exact ⟨u,k b u hbe q⟩
end
def trk(h:Heap)(H:Hp):List Addr:=(List.range h.objs.size).filter fun a=>(H a).isSome
def zcS(h:Heap)(H:Hp):Heap:=W.hideAll h (trk h H)
theorem z9z(h:Heap)(H:Hp):(zcS h H).objs.size=h.objs.size:=W.hideAll_size _ _
theorem zcR{h:Heap}{H:Hp}{b:Addr}{o:Obj}(e:h.get? b=some o)(n:H b=none):(zcS h H).get? b=some o:= W.hideAll_get _ e fun hm=>by
  have q:(H b).isSome=true:=(_bj.mp hm).2;rw [n] at q;simp at q
theorem zgD{h:Heap}{H:Hp}{b:Addr}{o:Obj}(e:(zcS h H).get? b=some o):h.get? b=some o/\H b=none:=by
 have e':h.get? b=some o:=W.of_hideAll (trk h H) e;refine ⟨e',?_⟩;cases q:H b with
 | none=>rfl | some x=>
  have hm:b∈trk h H:=_bj.mpr ⟨_aB.mpr (_l e'),by simp [q]⟩;have z:(zcS h H).get? b=none:=W.hideAll_none (trk h H) hm;rw [z] at e;cases e
def zgb(g h:Heap)(L:Addr):List (Addr×Obj):=(List.range h.objs.size).filterMap fun a=>if a=L\/(g.get? a).isSome=true then none else (h.get? a).map fun o=>(a,o)
def uh(g h:Heap)(L d:Addr):List (Addr×Obj):=(zgb g h L).filter fun p=>decide (p.1≠d)
structure Mod(K:W.Frag)(mg:Str->Option Value)(base:Heap):Prop where
 kin:K.In base
 glob:base.Ns mainGlobals mg
 blt:∃ mb,base.Ns builtinsNs mb/\∀ x:Str,x≠"__name__"->mb x=bootBuiltins x
 nolimit:base.NoLimit
structure Cx where
 prog:Program
 w:World
 K:W.Frag
 mg:Str->Option Value
 base:Heap
 A:Around
 N:List Str
 s₀:Shared
 H₀:Hp
 env:Env
 outer:List Env
 stack:List Env
 ex:List Addr
 fn:Str->Bool
 calm:Bool
 pn:List (Addr×Obj)
 xe:Value->Shared->Prop
def frs(l:List Env):List Addr:=l.filterMap (·.frame)
abbrev Cx.fs(X:Cx):List Addr:=frs X.outer
def Vis(sc:Scope)(x:Str):Prop:=sc.names.lookup x=some .local\/sc.names.lookup x=some .cell\/sc.names.lookup x=some .free
def Loc(sc:Scope)(x:Str):Prop:=sc.names.lookup x=some .local\/sc.names.lookup x=some .cell
def zlw(env:Env)(h:Heap)(m:Str->Option Value)(x:Str)(u:Value):Prop:= (env.kindOf x=some .local/\m x=some u)\/((env.kindOf x=some .cell\/env.kindOf x=some .free)/\∃ c,env.cells.lookup x=some c/\h.IsCell c (some u))
structure Cx.Ok(X:Cx):Prop where
 mod:Mod X.K X.mg X.base
 kind:X.env.scope.kind=.function
 glob:X.env.globals=mainGlobals
 blt:X.env.builtins=builtinsNs
 above:X.s₀.heap.objs.size<=X.env.locals
 inj:∀ x y c,X.env.cells.lookup x=some c->X.env.cells.lookup y=some c->x=y
 has:∀ x,(X.env.kindOf x=some .cell\/X.env.kindOf x=some .free)->∃ c,X.env.cells.lookup x=some c
 cab:∀ x c,X.fn x=true->X.env.cells.lookup x=some c->X.s₀.heap.objs.size<=c
 hd:X.calm=true->X.A.handled=none
 frames:X.A.frames=some X.stack
 stk:X.stack=X.outer\/(X.stack=X.env::X.outer/\X.env.frame=some X.env.locals)
 exf:∀ b∈X.ex,b≠X.env.locals/\∀ x c,X.env.cells.lookup x=some c->c≠b
 bs:∀ b o,X.base.get? b=some o->X.s₀.heap.get? b=some o/\X.H₀ b=none
 bsz:X.base.objs.size<=X.s₀.heap.objs.size
 noex:∀ b o,X.base.get? b=some o->b∉X.ex
 exfs:∀ b∈X.ex,b∉X.fs
 funs:X.s₀.heap.FunFrames X.base X.outer
 frf:∀ b∈X.fs,X.H₀ b=none
structure Inv(X:Cx)(pins:List (Addr×Obj))(O:List (Option V))(H:Hp)(s:Shared):Prop where
 ok:X.Ok
 os:s.os=X.s₀.os
 bare:AllBare s.gens
 base:Un X.fs X.ex X.H₀ H X.s₀.heap s.heap
 loc:∃ m,s.heap.Ns X.env.locals m/\∀ (i:Nat)(x:Str)(v:V),X.N[i]? = some x->O[i]? = some (some v)->Vis X.env.scope x->∃ u,yu v u/\zlw X.env s.heap m x u
 cell:∀ x c,X.env.cells.lookup x=some c->∃ v,s.heap.IsCell c v
 free:H X.env.locals=none
 freeC:∀ x c,X.env.cells.lookup x=some c->H c=none
 pin:∀ p∈X.pn++pins,s.heap.get? p.1=some p.2/\H p.1=none/\p.1≠X.env.locals/\p.1∉X.fs/\∀ v,p.2.data≠.cell v
 hok:HOk X.prog X.w H s.heap
 len:O.length=X.N.length
section
variable {X:Cx}{pins:List (Addr×Obj)}{O:List (Option V)}{H H':Hp}{s:Shared}{h':Heap}
theorem Cx.Ok.nofr(ok:X.Ok){b:Addr}{o:Obj}(e:X.base.get? b=some o):b∉X.fs:=fun hb=>by
 have:=(ok.funs.mem hb).1;rw [e] at this;cases this
theorem Inv.bs(I:Inv X pins O H s):∀ b o,X.base.get? b=some o->s.heap.get? b=some o/\H b=none:=fun b o e=> ⟨I.base.keep b o (I.ok.bs b o e).1 (I.ok.bs b o e).2 (I.ok.nofr e) (I.ok.noex b o e),I.base.free b o (I.ok.bs b o e).1 (I.ok.bs b o e).2 (I.ok.noex b o e)⟩
theorem Inv.bk(I:Inv X pins O H s):∀ b o,X.base.get? b=some o->s.heap.get? b=some o:=fun b o e=>(I.bs b o e).1
theorem Inv.mod(I:Inv X pins O H s):Mod X.K X.mg X.base:=I.ok.mod
theorem Inv.kIn(I:Inv X pins O H s):X.K.In s.heap:=I.ok.mod.kin.keeps I.bk
theorem Inv.fr(I:Inv X pins O H s):∃ m,Fr X.base X.env.locals s.heap m:= let ⟨m,hn,_⟩:=I.loc;⟨m,hn,I.bk,_U I.ok.bsz I.ok.above⟩
theorem Inv.lt(I:Inv X pins O H s):X.env.locals<s.heap.objs.size:=let ⟨_,hn,_⟩:=I.loc;hn.lt
theorem Inv.sz(I:Inv X pins O H s):X.s₀.heap.objs.size<=s.heap.objs.size:=_U I.ok.above (_dl I.lt)
theorem Inv.nofs(I:Inv X pins O H s){a:Addr}(h:s.heap.objs.size<=a):a∉X.fs:=fun hb=>by
 obtain ⟨_,o,ho,_⟩:=I.ok.funs.mem hb;exact absurd (_r (_l ho) (_U I.sz h)) (_am _)
theorem Inv.cne(I:Inv X pins O H s):∀ x c,X.env.cells.lookup x=some c->c≠X.env.locals:=fun x c e z=>by
 obtain ⟨v,o,ho,hd⟩:=I.cell x c e;obtain ⟨m,⟨o',es,ep,ho',hd',_⟩,_⟩:=I.loc;rw [z,ho'] at ho;cases ho;rw [hd'] at hd;cases hd
theorem Inv.funs(I:Inv X pins O H s):s.heap.FunFrames X.base X.outer:=by
 have all:∀ (l:List Env),(∀ b∈frs l,b∈X.fs)->X.s₀.heap.FunFrames X.base l->s.heap.FunFrames X.base l:=by
  intro l;induction l with
  | nil=>intro _ _;trivial | cons env r ih=>
   intro hs hl;obtain ⟨hk,⟨L,o,hf,hn,ho,hd⟩,hr⟩:=hl;have hL:L∈X.fs:=hs L (by unfold frs;rw [_bu,hf];exact _M);obtain ⟨sl,e⟩:=I.base.slot L o ho (I.ok.frf L hL) hL fun z=>I.ok.exfs L z hL;exact ⟨hk,⟨L,_,hf,hn,e,hd⟩,ih (fun b hb=>hs b (by unfold frs;rw [_bu,hf];exact _y _ hb)) hr⟩
 exact all X.outer (fun _ hb=>hb) I.ok.funs
theorem Inv.stack(I:Inv X pins O H s):s.heap.FunFrames X.base X.stack:=by
 rcases I.ok.stk with e | ⟨e,hf⟩;·rw [e];exact I.funs
 ·rw [e];obtain ⟨m,hn,_⟩:=I.loc;refine .cons (by rw [I.ok.kind];decide) hf hn ?_ I.funs;exact Heap.get?_none_of_le (_U I.ok.bsz I.ok.above)
theorem Inv.stkSub(I:Inv X pins O H s):∀ b∈frs X.stack,b∈X.env.locals::X.fs:=fun b hb=>by
 rcases I.ok.stk with e | ⟨e,hf⟩;·rw [e] at hb;exact _y _ hb
 ·rw [e] at hb;unfold frs at hb;rw [_bu,hf] at hb;exact hb
theorem Inv.stkFree(I:Inv X pins O H s):∀ b∈frs X.stack,H b=none:=fun b hb=>by
 rcases _z.mp (I.stkSub b hb) with e | hb;·rw [e];exact I.free
 ·obtain ⟨_,o,ho,_⟩:=I.ok.funs.mem hb;exact I.base.free b o ho (I.ok.frf b hb) fun z=>I.ok.exfs b z hb
theorem Inv.step{g':Array GenState}{t':Nat}{d':Drawn}{ch:List Addr}(I:Inv X pins O H s) (hch:∀ b∈ch,(b∈X.ex\/X.s₀.heap.objs.size<=b)/\b≠X.env.locals/\(∀ x c,X.env.cells.lookup x=some c->c≠b)/\∀ p∈X.pn++pins,p.1≠b) (keep:∀ b o,b≠X.env.locals->b∉X.fs->b∉ch->s.heap.get? b=some o->H b=none->h'.get? b=some o) (slot:∀ b o,b≠X.env.locals->b∈X.fs->b∉ch->s.heap.get? b=some o->H b=none->∃ sl,h'.get? b=some {o with slots:=sl})(free:∀ b o,b∉ch->s.heap.get? b=some o->H b=none->H' b=none) (there:∀ b o,b∉ch->s.heap.get? b=some o->∃ o',h'.get? b=some o') (tups:∀ b xs,H b=some (.tup xs)->H' b=some (.tup xs))(frzs:∀ b o u,H b=some (.frz o u)->H' b=some (.frz o u))(tbls:∀ b ps,H b=some (.tbl ps)->∃ more,H' b=some (.tbl (ps++more))) (ns:∀ m,s.heap.Ns X.env.locals m->h'.Ns X.env.locals m)(hok:HOk X.prog X.w H' h')(hg:AllBare g'): Inv X pins O H' {s with heap:=h',gens:=g',drawn:=d',toks:=t'}:=by
 have neL:∀ b o,X.s₀.heap.get? b=some o->b≠X.env.locals:=fun b o e=>_x (_r (_l e) I.ok.above);have neC:∀ b o,X.s₀.heap.get? b=some o->b∉X.ex->b∉ch:=fun b o e hx hb=>by
  rcases (hch b hb).1 with z | z;·exact hx z
  ·exact absurd (_r (_l e) z) (_am _)
 have cellK:∀ x c,X.env.cells.lookup x=some c->∀ v,s.heap.IsCell c v->h'.IsCell c v:=fun x c e v ⟨o,ho,hd⟩=>by
  have nch:c∉ch:=fun z=>(hch c z).2.2.1 x c e rfl;by_cases hc:c∈X.fs
  ·obtain ⟨sl,q⟩:=slot c o (I.cne x c e) hc nch ho (I.freeC x c e);exact ⟨_,q,hd⟩
  ·exact ⟨o,keep c o (I.cne x c e) hc nch ho (I.freeC x c e),hd⟩
 refine ⟨I.ok,I.os,hg,⟨fun b o e n hb hx=>?_,fun b o e n hb hx=>?_,fun b o e n hx=>?_,fun b o e hx=>?_,fun b xs e=>tups b xs (I.base.tups b xs e),fun b o xs e=>frzs b o xs (I.base.frzs b o xs e),fun b ps e=>?_⟩,?_,fun x c e=>?_,?_,fun x c e=>?_,fun p hp=>?_,hok,I.len⟩;·exact keep b o (neL b o e) hb (neC b o e hx) (I.base.keep b o e n hb hx) (I.base.free b o e n hx)
 ·obtain ⟨sl,e1⟩:=I.base.slot b o e n hb hx;obtain ⟨sl',e2⟩:=slot b _ (neL b o e) hb (neC b o e hx) e1 (I.base.free b o e n hx);exact ⟨sl',e2⟩
 ·obtain ⟨o',e1⟩:=I.base.there b o e hx;exact free b o' (neC b o e hx) e1 (I.base.free b o e n hx)
 ·obtain ⟨o',e1⟩:=I.base.there b o e hx;exact there b o' (neC b o e hx) e1
 ·obtain ⟨m1,e1⟩:=I.base.tbls b ps e;obtain ⟨m2,e2⟩:=tbls b _ e1;exact ⟨m1++m2,by rw [e2,Array.append_assoc]⟩
 ·obtain ⟨m,hn,hl⟩:=I.loc;refine ⟨m,ns m hn,fun i x v e1 e2 e3=>?_⟩;obtain ⟨u,r,l⟩:=hl i x v e1 e2 e3;refine ⟨u,r,?_⟩;rcases l with l | ⟨k,c,e,z⟩;·exact .inl l
  ·exact .inr ⟨k,c,e,cellK x c e _ z⟩
 ·obtain ⟨v,z⟩:=I.cell x c e;exact ⟨v,cellK x c e v z⟩
 ·obtain ⟨m,⟨o,_,_,ho,_⟩,_⟩:=I.loc;exact free _ o (fun z=>(hch _ z).2.1 rfl) ho I.free
 ·obtain ⟨v,o,ho,hd⟩:=I.cell x c e;exact free c o (fun z=>(hch c z).2.2.1 x c e rfl) ho (I.freeC x c e)
 ·obtain ⟨e,n,ne,nf,d⟩:=I.pin p hp;have nch:p.1∉ch:=fun z=>(hch p.1 z).2.2.2 p hp rfl;exact ⟨keep p.1 p.2 ne nf nch e n,free p.1 p.2 nch e n,ne,nf,d⟩
theorem Inv.un {t':Nat} (I:Inv X pins O H s) (u:Un X.fs [] H H' s.heap h') (hok:HOk X.prog X.w H' h'):Inv X pins O H' {s with heap:=h',toks:=t'}:=by
 obtain ⟨m,⟨o,es,ep,ho,r⟩,_⟩:=id I.loc;obtain ⟨sl,hL⟩:=u.any ho I.free (by simp);exact I.step (g':=s.gens) (d':=s.drawn) (ch:=[]) (fun _ z=>nomatch z) (fun b o _ hb _ e n=>u.keep b o e n hb (by simp)) (fun b o _ hb _ e n=>u.slot b o e n hb (by simp)) (fun b o _ e n=>u.free b o e n (by simp)) (fun b o _ e=>u.there b o e (by simp)) u.tups u.frzs u.tbls (fun m' hm=>by
  obtain ⟨o',es',ep',ho',r'⟩:=hm;rw [ho] at ho';cases ho';exact ⟨_,es',ep',hL,r'⟩) hok I.bare
theorem Inv.call{g':Array GenState}{t':Nat}{d':Drawn}{ch:List Addr}(I:Inv X pins O H s)(u:Un (frs X.stack) ch H H' s.heap h')(hok:HOk X.prog X.w H' h')(hg:AllBare g') (hch:∀ b∈ch,(b∈X.ex\/X.s₀.heap.objs.size<=b)/\b≠X.env.locals/\(∀ x c,X.env.cells.lookup x=some c->c≠b)/\∀ p∈X.pn++pins,p.1≠b): Inv X pins O H' {s with heap:=h',gens:=g',drawn:=d',toks:=t'}:=by
 obtain ⟨m,⟨o,es,ep,ho,r⟩,_⟩:=id I.loc;obtain ⟨sl,hL⟩:=u.any ho I.free fun z=>(hch _ z).2.1 rfl;exact I.step (ch:=ch) hch (fun b o hL hb hc e n=>u.keep b o e n (fun z=>(_z.mp (I.stkSub b z)).elim hL hb) hc) (fun b o _ _ hc e n=>u.any e n hc) (fun b o hc e n=>u.free b o e n hc) (fun b o hc e=>u.there b o e hc) u.tups u.frzs u.tbls (fun m' hm=>by
  obtain ⟨o',es',ep',ho',r'⟩:=hm;rw [ho] at ho';cases ho';exact ⟨_,es',ep',hL,r'⟩) hok hg
theorem Inv.turned {t':Nat} {it:Addr} (I:Inv X pins O H s) (k:∀ b o,b≠it->s.heap.get? b=some o->h'.get? b=some o) (hn:H it=none) (hL:it≠X.env.locals) (h1:it∈X.ex\/X.s₀.heap.objs.size<=it) (h2:∀ x c,X.env.cells.lookup x=some c->c≠it) (h3:∀ p∈X.pn++pins,p.1≠it):Inv X pins O H {s with heap:=h',toks:=t'}:=by
 have nit:∀ b u,H b=some u->b≠it:=fun b u e z=>by rw [z,hn] at e;cases e
 refine I.step (g':=s.gens) (d':=s.drawn) (ch:=[it]) (fun b hb=>?_) (fun b o _ _ hc e _=>k b o (fun z=>hc (by simp [z])) e) (fun b o _ _ hc e _=>⟨o.slots,k b o (fun z=>hc (by simp [z])) e⟩) (fun _ _ _ _ n=>n) (fun b o hc e=>⟨o,k b o (fun z=>hc (by simp [z])) e⟩) (fun _ _ e=>e) (fun _ _ _ e=>e) (fun b ps e=>⟨#[],by rw [e];simp⟩) (fun m hm=>?_) (fun b u e=>?_) I.bare
 ·have e:b=it:=by simpa using hb
  subst e;exact ⟨h1,hL,h2,h3⟩
 ·obtain ⟨o,es,ep,ho,r⟩:=hm;exact ⟨o,es,ep,k _ o (_a5 hL) ho,r⟩
 ·refine (I.hok b u e).stay (fun c v hc q=>k c v ?_ q) (fun _ q=>q) fun _ _ q=>q;rcases hc with z | z;·rw [z];exact nit b u e
  ·exact nit c _ z
theorem Inv.tok (I:Inv X pins O H s) (t:Nat):Inv X pins O H {s with toks:=t}:=I.un (h':=s.heap) (t':=t) Un.refl I.hok
theorem Inv.kept{t':Nat}(I:Inv X pins O H s)(k:∀ b u,s.heap.get? b=some u->h'.get? b=some u):Inv X pins O H {s with heap:=h',toks:=t'}:=I.un (Un.kept k) (I.hok.kept k)
theorem Inv.laid {a:Addr} {o:HO} {t':Nat} (I:Inv X pins O H s) (k:∀ b u,s.heap.get? b=some u->h'.get? b=some u) (hp:s.heap.objs.size<=a) (new:yj X.prog X.w (upd H a o) h' a o): Inv X pins O (upd H a o) {s with heap:=h',toks:=t'}:=I.un (Un.laid k hp (I.hok.fresh hp)) (I.hok.laid k hp new)
theorem Inv.write {x e:Addr} {o:HO} {t':Nat} (I:Inv X pins O H s) (mu:Mut (H x)) (he:e=x\/H e=some (.own x)) (k:∀ b u,b≠e->s.heap.get? b=some u->h'.get? b=some u) (heo:∃ u,h'.get? e=some u) (new:yj X.prog X.w (upd H x o) h' x o):Inv X pins O (upd H x o) {s with heap:=h',toks:=t'}:=I.un (Un.write mu he k heo) (I.hok.write mu he k heo new)
theorem Inv.weak{O':List (Option V)}(I:Inv X pins O H s)(hl:O'.length=O.length)(w:∀ (i:Nat) v,O'[i]? = some (some v)->O[i]? = some (some v)):Inv X pins O' H s:= ⟨I.ok,I.os,I.bare,I.base,let ⟨m,hn,hl'⟩:=I.loc;⟨m,hn,fun i x v e1 e2 e3=>hl' i x v e1 (w i v e2) e3⟩,I.cell,I.free,I.freeC,I.pin,I.hok,hl.trans I.len⟩
theorem Inv.pins_of{pins':List (Addr×Obj)}(I:Inv X pins O H s)(h:∀ p∈pins',s.heap.get? p.1=some p.2/\H p.1=none/\p.1≠X.env.locals/\p.1∉X.fs/\∀ v,p.2.data≠.cell v):Inv X pins' O H s:= ⟨I.ok,I.os,I.bare,I.base,I.loc,I.cell,I.free,I.freeC,fun p hp=>(_V.mp hp).elim (fun z=>I.pin p (_ad _ z)) (h p),I.hok,I.len⟩
theorem z7Y{N:List Str}(hN:N.Nodup){i j:Nat}{x:Str}(a:N[i]? = some x)(b:N[j]? = some x):i=j:=by
 obtain ⟨h1,e1⟩:=_b.mp a;obtain ⟨h2,e2⟩:=_b.mp b;exact (_br hN).mp (e1.trans e2.symm)
theorem kH{M:Model}{A:Around}{E:Value->Shared->Prop}{i:Nat}{x:Str}{v:V}{u:Value}{Q:Unit->Shared->Prop}(I:Inv X pins O H s)(hN:X.N.Nodup)(hi:X.N[i]? = some x)(hx:Loc X.env.scope x)(r:yu v u) (h:∀ s',Inv X pins (O.set i (some v)) H s'->(∃ a,Heap.SameBut a s.heap s'.heap/\(a=X.env.locals\/X.env.cells.lookup x=some a))->Q () s')(hf:X.fn x=true\/X.env.scope.names.lookup x=some .local:=by first | exact .inl rfl | exact .inr rfl | assumption):wpAny M A (storeName X.env x u) Q E s:=by
 obtain ⟨m,hn,hl⟩:=id I.loc;have hcls:(X.env.scope.kind==.class||(X.env.scope.kind==.module&&X.env.locals != X.env.globals))=false:=by rw [I.ok.kind];rfl
 have hiO:i<O.length:=by rw [I.len];exact (_b.mp hi).1
 have cne:=I.cne;have tracked:∀ {a:Addr}{h':Heap},(∃ o,s.heap.get? a=some o/\H a=none)->Heap.SameBut a s.heap h'->HOk X.prog X.w H h':=fun {a h'} ha hs b ob e=>by
  obtain ⟨_,_,hfree⟩:=ha;refine (I.hok b ob e).stay (fun c w' hc q=>(hs.2 c ?_).trans q) (fun _ q=>q) fun _ _ q=>q;rintro rfl;rcases hc with rfl | hc;·rw [hfree] at e;cases e
  ·rw [hfree] at hc;cases hc
 rcases hx with hk | hk
 ·refine wpAny_storeName_local hk hn (fun h' hn' hs=>?_) hcls;obtain ⟨oL,_,_,hoL,_⟩:=id hn;refine h _ ⟨I.ok,I.os,I.bare,⟨fun b o e n hb hx=>?_,fun b o e n hb hx=>?_,I.base.free,fun b o e hx=>?_,I.base.tups,I.base.frzs,I.base.tbls⟩,⟨_,hn',fun j y v' e1 e2 e3=>?_⟩,fun y c e=>?_,I.free,I.freeC,fun p hp=>?_,tracked ⟨oL,hoL,I.free⟩ hs,by simpa using I.len⟩ ⟨_,hs,.inl rfl⟩;·exact (hs.2 b (_x (_r (_l e) I.ok.above))).trans (I.base.keep b o e n hb hx)
  ·obtain ⟨sl,e1⟩:=I.base.slot b o e n hb hx;exact ⟨sl,(hs.2 b (_x (_r (_l e) I.ok.above))).trans e1⟩
  ·obtain ⟨o',e1⟩:=I.base.there b o e hx;exact ⟨o',(hs.2 b (_x (_r (_l e) I.ok.above))).trans e1⟩
  ·by_cases hj:j=i
   ·subst hj;rw [hi] at e1;cases e1;rw [_O hiO] at e2;cases e2;exact ⟨u,r,.inl ⟨hk,by simp⟩⟩
   ·rw [_C (_a5 hj)] at e2;obtain ⟨u',r',q⟩:=hl j y v' e1 e2 e3;refine ⟨u',r',?_⟩;rcases q with ⟨k,e⟩ | ⟨k,c,e,z⟩
    ·refine .inl ⟨k,?_⟩;have:y≠x:=fun e=>hj (z7Y hN e1 (e ▸ hi));simp [this,e]
    ·exact .inr ⟨k,c,e,z.sameBut hs (cne y c e)⟩
  ·obtain ⟨w',z⟩:=I.cell y c e;exact ⟨w',z.sameBut hs (cne y c e)⟩
  ·obtain ⟨e,n,ne,nf,d⟩:=I.pin p hp;exact ⟨(hs.2 p.1 ne).trans e,n,ne,nf,d⟩
 ·have hfn:X.fn x=true:=by
   rcases hf with z | z;·exact z
   ·rw [z] at hk;cases hk
  obtain ⟨c,hc⟩:=I.ok.has x (.inl hk);obtain ⟨w',z⟩:=I.cell x c hc;refine wpAny_storeName_cell I.ok.kind hk hc z (fun h' hc' hs=>?_);obtain ⟨oc,hoc,hocd⟩:=id z;refine h {s with heap:=h'} ⟨I.ok,I.os,I.bare,⟨fun b o e n hb hx=>?_,fun b o e n hb hx=>?_,I.base.free,fun b o e hx=>?_,I.base.tups,I.base.frzs,I.base.tbls⟩,⟨m,hn.sameBut hs (_a5 (cne x c hc)),fun j y v' e1 e2 e3=>?_⟩,fun y c' e=>?_,I.free,I.freeC,fun p hp=>?_,tracked ⟨oc,hoc,I.freeC x c hc⟩ hs,by simpa using I.len⟩ ⟨c,hs,.inr hc⟩;·exact (hs.2 b (_x (_r (_l e) (I.ok.cab x c hfn hc)))).trans (I.base.keep b o e n hb hx)
  ·obtain ⟨sl,e1⟩:=I.base.slot b o e n hb hx;exact ⟨sl,(hs.2 b (_x (_r (_l e) (I.ok.cab x c hfn hc)))).trans e1⟩
  ·obtain ⟨o',e1⟩:=I.base.there b o e hx;exact ⟨o',(hs.2 b (_x (_r (_l e) (I.ok.cab x c hfn hc)))).trans e1⟩
  ·by_cases hj:j=i
   ·subst hj;rw [hi] at e1;cases e1;rw [_O hiO] at e2;cases e2;exact ⟨u,r,.inr ⟨.inl hk,c,hc,hc'⟩⟩
   ·rw [_C (_a5 hj)] at e2;obtain ⟨u',r',q⟩:=hl j y v' e1 e2 e3;refine ⟨u',r',?_⟩;rcases q with q | ⟨k,c',e,z'⟩;·exact .inl q
    ·refine .inr ⟨k,c',e,z'.sameBut hs ?_⟩;rintro rfl;exact hj (z7Y hN e1 (I.ok.inj _ _ _ e hc ▸ hi))
  ·by_cases hcc:c'=c;·subst hcc;exact ⟨_,hc'⟩
   ·obtain ⟨w2,z2⟩:=I.cell y c' e;exact ⟨w2,z2.sameBut hs hcc⟩
  ·obtain ⟨e,n,ne,nf,d⟩:=I.pin p hp;refine ⟨(hs.2 p.1 ?_).trans e,n,ne,nf,d⟩;intro q;rw [q,hoc] at e;have q':oc=p.2:=_K e;exact d w' (by rw [<- q'];exact hocd)
theorem z1z{M:Model}{A:Around}{E:Value->Shared->Prop}{i:Nat}{x:Str}{v:V}{u:Value}{Q:Unit->Shared->Prop}(I:Inv X pins O H s)(hN:X.N.Nodup)(hi:X.N[i]? = some x)(hx:Loc X.env.scope x)(r:yu v u) (h:∀ s',Inv X pins (O.set i (some v)) H s'->Q () s')(hf:X.fn x=true\/X.env.scope.names.lookup x=some .local:=by first | exact .inl rfl | exact .inr rfl | assumption):wpAny M A (storeName X.env x u) Q E s:= kH I hN hi hx r (fun s' I' _=>h s' I') hf
theorem Inv.call' {s':Shared} {ch:List Addr} (I:Inv X pins O H s) (ho:s'.os=s.os) (u:Un (frs X.stack) ch H H' s.heap s'.heap) (hok:HOk X.prog X.w H' s'.heap) (hg:AllBare s'.gens) (hch:∀ b∈ch,(b∈X.ex\/X.s₀.heap.objs.size<=b)/\b≠X.env.locals/\(∀ x c,X.env.cells.lookup x=some c->c≠b)/\∀ p∈X.pn++pins,p.1≠b):Inv X pins O H' s':=by
 obtain ⟨h',g',d',t',o'⟩:=s';have e:o'=s.os:=ho;subst e;exact I.call (g':=g') (t':=t') (d':=d') u hok hg hch
end
abbrev XK:=Value->Option Addr->Hp->Prop
abbrev St:=List (Option V)
abbrev VK:=V->Hp->Prop
abbrev TE:=St->Hp->VK->Prop
abbrev TT:=St->Hp->(Bool->Hp->Prop)->Prop
abbrev TA:=St->Hp->(List V->Hp->Prop)->Prop
structure zfN where
 nx:St->Hp->Prop
 rt:VK
 bk:St->Hp->Prop:=fun _ _=>False
 ct:St->Hp->Prop:=fun _ _=>False
abbrev TS:=zfN->St->Hp->Prop
def EP(X:Cx)(pins:List (Addr×Obj))(O:St)(Q:VK)(u:Value)(s':Shared):Prop:=∃ v H',Inv X pins O H' s'/\yu v u/\Q v H'
def TP(X:Cx)(pins:List (Addr×Obj))(O:St)(Q:Bool->Hp->Prop)(b:Bool)(s':Shared):Prop:=∃ H',Inv X pins O H' s'/\Q b H'
def AP(X:Cx)(pins:List (Addr×Obj))(O:St)(Q:List V->Hp->Prop)(us:List Value)(s':Shared):Prop:=∃ vs H',Inv X pins O H' s'/\ym vs us/\Q vs H'
def SP(X:Cx)(pins:List (Addr×Obj))(D:zfN)(f:Flow)(s':Shared):Prop:= match f with
 | .next=>∃ O' H',Inv X pins O' H' s'/\D.nx O' H' | .brk=>∃ O' H',Inv X pins O' H' s'/\D.bk O' H' | .cont=>∃ O' H',Inv X pins O' H' s'/\D.ct O' H' | .ret u=>∃ v O' H',Inv X pins O' H' s'/\yu v u/\D.rt v H'
def PE(X:Cx)(e:Expr)(t:TE):Prop:= ∀ (pins:List (Addr×Obj))(s:Shared)(O:St)(H:Hp)(Q:VK),Inv X pins O H s->t O H Q->wpAny (model X.prog X.w) X.A (eval e X.env) (EP X pins O Q) X.xe s
def PT(X:Cx)(e:Expr)(t:TT):Prop:= ∀ (pins:List (Addr×Obj))(s:Shared)(O:St)(H:Hp)(Q:Bool->Hp->Prop),Inv X pins O H s->t O H Q->wpAny (model X.prog X.w) X.A (isTrue e X.env (eval e X.env)) (TP X pins O Q) X.xe s
def PW(X:Cx)(e:Expr)(t:TT):Prop:= ∀ (whole:Sem Value)(pins:List (Addr×Obj))(s:Shared)(O:St)(H:Hp)(Q:Bool->Hp->Prop),Inv X pins O H s->t O H Q->wpAny (model X.prog X.w) X.A (isTrue e X.env whole) (TP X pins O Q) X.xe s
theorem PW.pt{X:Cx}{e:Expr}{t:TT}(h:PW X e t):PT X e t:=h _
def PA(X:Cx)(es:List Expr)(t:TA):Prop:= ∀ (pos:Pos)(pins:List (Addr×Obj))(s:Shared)(O:St)(H:Hp)(Q:List V->Hp->Prop),Inv X pins O H s->t O H Q->wpAny (model X.prog X.w) X.A (spliced (backTo pos (starEach es X.env))) (AP X pins O Q) X.xe s
def PS(X:Cx)(st:Stmt)(t:TS):Prop:= ∀ (pins:List (Addr×Obj))(s:Shared)(O:St)(H:Hp)(D:zfN),Inv X pins O H s->t D O H->wpAny (model X.prog X.w) X.A (exec st X.env) (SP X pins D) X.xe s
def PSs(X:Cx)(st:List Stmt)(t:TS):Prop:= ∀ (pins:List (Addr×Obj))(s:Shared)(O:St)(H:Hp)(D:zfN),Inv X pins O H s->t D O H->wpAny (model X.prog X.w) X.A (execs st X.env) (SP X pins D) X.xe s
theorem thn{α:Type}{t:Sem α}{Q Q':α->Shared->Prop}{M:Model}{A:Around}{E:Value->Shared->Prop}{s:Shared}(h:wpAny M A t Q E s)(hQ:∀ a s,Q a s->Q' a s):wpAny M A t Q' E s:=_t h hQ fun _ _ x=>x
section
variable {X:Cx}
theorem bin{a b:Expr}{ta tb:TE}(ha:PE X a ta)(hb:PE X b tb){pins:List (Addr×Obj)}{s:Shared}{O:St}{H:Hp}{R:V->V->Hp->Prop}(I:Inv X pins O H s)(h:ta O H fun x H1=>tb O H1 fun y H2=>R x y H2) {α:Type}{Q:α->Shared->Prop}{f:Value->Value->Sem α} (hf:∀ v u s2 x y H2,Inv X pins O H2 s2->yu x v->yu y u->R x y H2->wpAny (model X.prog X.w) X.A (f v u) Q X.xe s2): wpAny (model X.prog X.w) X.A (eval a X.env) (fun v s₁=>wpAny (model X.prog X.w) X.A (eval b X.env) (fun u s₂=>wpAny (model X.prog X.w) X.A (f v u) Q X.xe s₂) X.xe s₁) X.xe s:=by
 refine thn (ha pins s O H _ I h) fun v s1 ⟨x,H1,I1,r1,q1⟩=>?_;refine thn (hb pins s1 O H1 _ I1 q1) fun u s2 ⟨y,H2,I2,r2,q2⟩=>?_;exact hf v u s2 x y H2 I2 r1 r2 q2
def zlT(i:Nat):TE:=fun O H Q=>∃ v,O[i]? = some (some v)/\Q v H
def tC(v:V):TE:=fun _ H Q=>Q v H
theorem ze7{i:Nat}{x:Str}{pos:Pos}(hN:X.N[i]? = some x)(hv:Vis X.env.scope x)(hd:(x==("__debug__":Str))=false:=by decide)(hcd:(x==("__classdict__":Str))=false:=by decide):PE X (.Name x pos) (zlT i):=by
 intro pins s O H Q I h;obtain ⟨v,e,h⟩:=h;obtain ⟨m,hn,hl⟩:=I.loc;obtain ⟨u,r,l⟩:=hl i x v hN e hv;have fin:EP X pins O Q u s:=⟨v,H,I,r,h⟩;rcases l with ⟨hk,hm⟩ | ⟨hk,c,hc,hcell⟩;·exact wpAny_Name (wpAny_loadName_local I.ok.kind hk hn hm fin) hd
 ·rcases hk with hk | hk;·exact wpAny_Name (wpAny_loadName_cell I.ok.kind hk hc hcell fin) hd
  ·exact wpAny_Name (wpAny_loadName_free I.ok.kind hk hc hcell fin hcd) hd
theorem zeA{i j pos}:PE X (.Constant (.int i) j pos) (tC (.int i)):=fun _ _ _ H _ I h=>wpAny_Constant_int ⟨.int i,H,I.tok _,⟨_,rfl⟩,h⟩
theorem zkh{b j pos}:PE X (.Constant (.bool b) j pos) (tC (.bl b)):=fun _ _ _ H _ I h=>Constant_bool ⟨.bl b,H,I,rfl,h⟩
theorem zie{j pos}:PE X (.Constant .none j pos) (tC .non):=fun _ _ _ H _ I h=>Constant_none ⟨.non,H,I,rfl,h⟩
theorem zeb{x j pos}:PE X (.Constant (.str x) j pos) (tC (.str x)):=fun _ _ _ H _ I h=>_cs ⟨.str x,H,I.tok _,⟨_,rfl⟩,h⟩
def Gl(X:Cx)(x:Str):Prop:=X.env.kindOf x=some .globalImplicit
theorem z0v{E:Value->Shared->Prop}{pins:List (Addr×Obj)}{s:Shared}{O:St}{H:Hp}{x:Str}{u:Value}{pos:Pos}{Q:Value->Shared->Prop}(I:Inv X pins O H s)(hg:Gl X x)(hm:X.mg x=some u)(h:Q u s) (hd:(x==("__debug__":Str))=false:=by decide):wpAny (model X.prog X.w) X.A (eval (.Name x pos) X.env) Q E s:= Calls.Name_function_global I.ok.kind hg (Calls.loadGlobal_global (by rw [I.ok.glob];exact I.mod.glob.keeps I.bk) hm h) hd
theorem z2w{E:Value->Shared->Prop}{pins:List (Addr×Obj)}{s:Shared}{O:St}{H:Hp}{x:Str}{u:Value}{pos:Pos}{Q:Value->Shared->Prop}(I:Inv X pins O H s)(hg:Gl X x)(hm:X.mg x=none)(hv:bootBuiltins x=some u)(h:Q u s) (hn:x≠"__name__":=by decide)(hd:(x==("__debug__":Str))=false:=by decide):wpAny (model X.prog X.w) X.A (eval (.Name x pos) X.env) Q E s:=by
 obtain ⟨mb,h1,h2⟩:=I.mod.blt;exact Calls.Name_function_global I.ok.kind hg (Calls.loadGlobal_builtin (by rw [I.ok.glob];exact I.mod.glob.keeps I.bk) hm (by rw [I.ok.blt];exact h1.keeps I.bk) ((h2 x hn).trans hv) h) hd
theorem z4A{x:Str}{v:V}{u:Value}{pos:Pos}(hg:Gl X x)(hm:X.mg x=some u)(r:yu v u)(hd:(x==("__debug__":Str))=false:=by decide):PE X (.Name x pos) (tC v):= fun _ _ _ H _ I h=>z0v I hg hm ⟨v,H,I,r,h⟩ hd
theorem z4p{x:Str}{v:V}{u:Value}{pos:Pos}(hg:Gl X x)(hm:X.mg x=none)(hv:bootBuiltins x=some u)(r:yu v u)(hn:x≠"__name__":=by decide)(hd:(x==("__debug__":Str))=false:=by decide):PE X (.Name x pos) (tC v):= fun _ _ _ H _ I h=>z2w I hg hm hv ⟨v,H,I,r,h⟩ hn hd
variable {a b:Expr}{ta tb:TE}{pos:Pos}
def PC(X:Cx)(op:CmpOp)(a b:Expr)(t:TE):Prop:= ∀ (pins:List (Addr×Obj))(s:Shared)(O:St)(H:Hp)(Q:VK),Inv X pins O H s->t O H Q-> wpAny (model X.prog X.w) X.A (eval a X.env) (fun v s₁=>wpAny (model X.prog X.w) X.A (eval b X.env) (fun u s₂=>wpAny (model X.prog X.w) X.A (compareOp op v u) (EP X pins O Q) X.xe s₂) X.xe s₁) X.xe s
def tB(t:TE):TT:=fun O H Q=>t O H fun x H1=>∃ c,x=.bl c/\Q c H1
theorem zl6{op:CmpOp}{t:TE}(h:PC X op a b t)(h1:behindInMarks op b=false:=by first | exact nobehind _ (by decide) (by decide) | rfl):PT X (.Compare a [op] [b] pos) (tB t):=by
 intro pins s O H Q I hw;refine wpAny_isTrue_Compare1 (thn (h pins s O H _ I hw) fun v s1 h1=>thn h1 fun u s2 h2=>thn h2 fun c s3 ⟨x,H1,I1,r1,q1⟩=>?_) h1;obtain ⟨d,rfl,q⟩:=q1;cases r1;exact _aq ⟨H1,I1,q⟩
theorem ziv{e:Expr}{t:TE}(h:PE X e t)(he:∀ whole,isTrue e X.env whole=(do let v <- whole;standAt e.pos;holding [v] (truthy v)):=by intro _;rfl):PT X e (tB t):=by
 intro pins s O H Q I hw;refine isTrue_plain (thn (h pins s O H _ I hw) fun v s1 ⟨x,H1,I1,r1,q1⟩=>?_) (he _);obtain ⟨d,rfl,q⟩:=q1;cases r1;exact _aq ⟨H1,I1,q⟩
variable {tA tB':TT}{uh:List Expr}
def zl8(t u:TT):TT:=fun O H Q=>t O H fun c H1=>if c=true then u O H1 Q else Q false H1
def tOr(t u:TT):TT:=fun O H Q=>t O H fun c H1=>if c=true then Q true H1 else u O H1 Q
def zlW(t:TT):TT:=fun O H Q=>t O H fun c H1=>Q (!c) H1
theorem zg0(ha:PT X a tA):PW X (.BoolOp .And [a] pos) tA:=by
 intro wh pins s O H Q I h;refine isTrue_and (thn (ha pins s O H Q I h) fun c s1 e=>?_);cases c with
 | true=>exact isTrue_and_nil e | false=>exact e
theorem zhP(ha:PT X a tA):PW X (.BoolOp .Or [a] pos) tA:=by
 intro wh pins s O H Q I h;refine isTrue_or (thn (ha pins s O H Q I h) fun c s1 e=>?_);cases c with
 | false=>exact isTrue_or_nil e | true=>exact e
theorem zhO(ha:PT X a tA)(hb:PW X (.BoolOp .And (b::uh) pos) tB'):PW X (.BoolOp .And (a::b::uh) pos) (zl8 tA tB'):=by
 intro wh pins s O H Q I h;refine isTrue_and (thn (ha pins s O H _ I h) fun c s1 ⟨H1,I1,q1⟩=>?_);cases c with
 | true=>exact hb wh pins s1 O H1 Q I1 q1 | false=>exact ⟨H1,I1,q1⟩
theorem zki(ha:PT X a tA)(hb:PW X (.BoolOp .Or (b::uh) pos) tB'):PW X (.BoolOp .Or (a::b::uh) pos) (tOr tA tB'):=by
 intro wh pins s O H Q I h;refine isTrue_or (thn (ha pins s O H _ I h) fun c s1 ⟨H1,I1,q1⟩=>?_);cases c with
 | true=>exact ⟨H1,I1,q1⟩ | false=>exact hb wh pins s1 O H1 Q I1 q1
theorem zhj(ha:PT X a tA):PT X (.UnaryOp .Not a pos) (zlW tA):=by
 intro pins s O H Q I h;exact isTrue_not (ha pins s O H (fun c H1=>Q (!c) H1) I h)
def zjH(ta tb:TE):TE:=fun O H Q=>ta O H fun x H1=>∃ c,x=.bl c/\if c=true then tb O H1 Q else Q (.bl false) H1
def zkb(ta:TE):TE:=fun O H Q=>ta O H fun x H1=>∃ c,x=.bl c/\Q (.bl (!c)) H1
theorem zhy{op}{t:TE}(h:PE X a t):PE X (.BoolOp op [a] pos) t:=fun pins s O H Q I hw=>BoolOp_one (h pins s O H Q I hw)
theorem zgR(ha:PE X a ta)(hb:PE X (.BoolOp .And (b::uh) pos) tb):PE X (.BoolOp .And (a::b::uh) pos) (zjH ta tb):=by
 intro pins s O H Q I h;refine BoolOp_and (thn (ha pins s O H _ I h) fun v s1 ⟨x,H1,I1,r1,q1⟩=>?_);obtain ⟨c,rfl,q1⟩:=q1;cases r1;refine _aq ?_;cases c with
 | true=>exact hb pins s1 O H1 Q I1 q1 | false=>exact ⟨.bl false,H1,I1,rfl,q1⟩
theorem ziC(ha:PE X a ta):PE X (.UnaryOp .Not a pos) (zkb ta):=by
 intro pins s O H Q I h;refine UnaryOp_ (thn (ha pins s O H _ I h) fun v s1 ⟨x,H1,I1,r1,q1⟩=>?_);obtain ⟨c,rfl,q1⟩:=q1;cases r1;exact not_of (_aq ⟨.bl (!c),H1,I1,rfl,q1⟩)
def tIf(t:TT)(ta tb:TE):TE:=fun O H Q=>t O H fun c H1=>if c=true then ta O H1 Q else tb O H1 Q
theorem zcQ{c:Expr}(hc:PT X c tA)(ha:PE X a ta)(hb:PE X b tb):PE X (.IfExp c a b pos) (tIf tA ta tb):=by
 intro pins s O H Q I h;refine wpAny_IfExp (thn (hc pins s O H _ I h) fun d s1 ⟨H1,I1,q1⟩=>?_);cases d with
 | true=>exact ha pins s1 O H1 Q I1 q1 | false=>exact hb pins s1 O H1 Q I1 q1
end
def SqL(K:W.Frag)(H:Hp)(a:Addr)(xs:List V):Prop:= Rd H a (.lst xs)\/ ∃ (o:Obj)(its:Array Value)(n:Nat),K.lookup a=some o/\o.cls=.type "list"/\o.dict=none/\o.data=.seq its n/\its.size<=sizeLine/\ym xs its.toList
def SqT(K:W.Frag)(H:Hp)(a:Addr)(xs:List V):Prop:= Rd H a (.tup xs)\/ ∃ (o:Obj)(its:Array Value)(n:Nat),K.lookup a=some o/\o.cls=.type "tuple"/\o.data=.seq its n/\its.size<=sizeLine/\ym xs its.toList
def zm3:Value->Option V
 | .none=>some .non | .bool b=>some (.bl b) | .int i _=>some (.int i) | .str x _=>some (.str x) | .bytes b _=>some (.byt b) | .float b _=>some (.flt b) | .ref a=>some (.ref a) | .type n=>some (.ty n) | _=>none
theorem yu.abs{x:V}{u:Value}(r:yu x u):zm3 u=some x:=by cases x with
 | non=>cases r;rfl | bl _=>cases r;rfl | int _=>obtain ⟨t,rfl⟩:=r;rfl | str _=>obtain ⟨t,rfl⟩:=r;rfl | byt _=>obtain ⟨t,rfl⟩:=r;rfl | flt _=>obtain ⟨t,rfl⟩:=r;rfl | ref _=>cases r;rfl | ty _=>cases r;rfl
theorem yu.inj{x y:V}{u:Value}(r:yu x u)(q:yu y u):x=y:=_K (r.abs.symm.trans q.abs)
theorem ym.inj:∀ {xs ys:List V}{us:List Value},ym xs us->ym ys us->xs=ys
 | _,_,_,.nil,.nil=>rfl | _,_,_,.cons r t,.cons r' t'=>by rw [r.inj r',ym.inj t t']
section
variable {X:Cx}{pins:List (Addr×Obj)}{O:St}{H:Hp}{s:Shared}{a:Addr}{xs ys:List V}
theorem Inv.list(I:Inv X pins O H s)(h:SqL X.K H a xs):∃ its:List Value,ym xs its/\PlainL s.heap a its.toArray/\xs.length<=sizeLine:=by
 rcases h with h | ⟨o,its,n,hk,hc,hd,hs,hz,r⟩
 ·obtain ⟨z,its,n,r,e⟩:=h.ok I.hok;exact ⟨its,r,⟨_,n,e,rfl,rfl,rfl⟩,z⟩
 ·refine ⟨its.toList,r,⟨o,n,I.kIn a o hk,hc,hd,by simpa using hs⟩,?_⟩;have e:=r.length;simp only [_aR] at e;omega
theorem Inv.tuple(I:Inv X pins O H s)(h:SqT X.K H a xs):∃ its:List Value,ym xs its/\IsTup s.heap a its.toArray/\xs.length<=sizeLine:=by
 rcases h with h | ⟨o,its,n,hk,hc,hs,hz,r⟩
 ·obtain ⟨z,its,r,p⟩:=h.ok I.hok;exact ⟨its,r,p.tup,z⟩
 ·refine ⟨its.toList,r,⟨o,I.kIn a o hk,hc,n,by simpa using hs⟩,?_⟩;have e:=r.length;simp only [_aR] at e;omega
theorem Inv.list_inj(I:Inv X pins O H s)(h:SqL X.K H a xs)(h':SqL X.K H a ys):xs=ys:=by
 obtain ⟨its,r,⟨o,n,e,_,_,d⟩,_⟩:=I.list h;obtain ⟨its',r',⟨o',n',e',_,_,d'⟩,_⟩:=I.list h';rw [e] at e';cases e';rw [d] at d';injection d' with d1 _;have:its=its':=by simpa using _aC Array.toList d1
 subst this;exact r.inj r'
theorem Inv.tuple_inj(I:Inv X pins O H s)(h:SqT X.K H a xs)(h':SqT X.K H a ys):xs=ys:=by
 obtain ⟨its,r,⟨o,e,_,n,d⟩,_⟩:=I.tuple h;obtain ⟨its',r',⟨o',e',_,n',d'⟩,_⟩:=I.tuple h';rw [e] at e';cases e';rw [d] at d';injection d' with d1 _;have:its=its':=by simpa using _aC Array.toList d1
 subst this;exact r.inj r'
end
abbrev Cx.wish(X:Cx)(E:Value->Shared->Prop):Cx:={X with xe:=E}
abbrev Cx.nox(X:Cx):Cx:=X.wish fun _ _=>False
theorem Cx.Ok.wish{X:Cx}(ok:X.Ok)(E:Value->Shared->Prop):(X.wish E).Ok:= ⟨ok.mod,ok.kind,ok.glob,ok.blt,ok.above,ok.inj,ok.has,ok.cab,ok.hd,ok.frames,ok.stk,ok.exf,ok.bs,ok.bsz,ok.noex,ok.exfs,ok.funs,ok.frf⟩
theorem Cx.Ok.unwish{X:Cx}{E:Value->Shared->Prop}(ok:(X.wish E).Ok):X.Ok:= ⟨ok.mod,ok.kind,ok.glob,ok.blt,ok.above,ok.inj,ok.has,ok.cab,ok.hd,ok.frames,ok.stk,ok.exf,ok.bs,ok.bsz,ok.noex,ok.exfs,ok.funs,ok.frf⟩
section
variable {X:Cx}{pins:List (Addr×Obj)}{O:St}{H:Hp}{s:Shared}{E:Value->Shared->Prop}
theorem Inv.wish(I:Inv X pins O H s)(E:Value->Shared->Prop):Inv (X.wish E) pins O H s:=⟨I.ok.wish E,I.os,I.bare,I.base,I.loc,I.cell,I.free,I.freeC,I.pin,I.hok,I.len⟩
theorem Inv.unwish(I:Inv (X.wish E) pins O H s):Inv X pins O H s:=⟨I.ok.unwish,I.os,I.bare,I.base,I.loc,I.cell,I.free,I.freeC,I.pin,I.hok,I.len⟩
theorem SP.unwish{D:zfN}{f:Flow}{s':Shared}(h:SP (X.wish E) pins D f s'):SP X pins D f s':=by cases f with
 | next=>obtain ⟨O',H',I,q⟩:=h;exact ⟨O',H',I.unwish,q⟩ | brk=>obtain ⟨O',H',I,q⟩:=h;exact ⟨O',H',I.unwish,q⟩ | cont=>obtain ⟨O',H',I,q⟩:=h;exact ⟨O',H',I.unwish,q⟩ | ret u=>obtain ⟨v,O',H',I,r,q⟩:=h;exact ⟨v,O',H',I.unwish,r,q⟩
theorem PSs.nox{st:List Stmt}{t:TS}(h:PSs X.nox st t):PSs X st t:=fun pins s O H D I hw=> _t (h pins s O H D (I.wish _) hw) (fun _ _ q=>q.unwish) fun _ _ z=>False.elim z
end
section
variable {X:Cx}{st:Stmt}{uh:List Stmt}{t u:TS}{e:Expr}{te:TE}{pos:Pos}
def zjW:TS:=fun D O H=>D.nx O H
def zkO(t u:TS):TS:=fun D O H=>t {D with nx:=u D} O H
theorem zf2:PSs X [] zjW:=fun _ _ O H _ I h=>_cd ⟨O,H,I,h⟩
theorem zcb(h1:PS X st t)(h2:PSs X uh u):PSs X (st::uh) (zkO t u):=by
 intro pins s O H D I h;refine wpAny_execs_cons (thn (h1 pins s O H {D with nx:=u D} I h) fun f s1 q=>?_);cases f with
 | next=>
  obtain ⟨O',H',I',q⟩:=q;exact h2 pins s1 O' H' D I' q | ret v=>exact q | brk=>exact q | cont=>exact q
theorem zf0(h1:PS X st t):PSs X [st] t:=by
 intro pins s O H D I h;refine wpAny_execs_cons (thn (h1 pins s O H D I h) fun f s1 q=>?_);cases f with
 | next=>exact _cd q | ret v=>exact q | brk=>exact q | cont=>exact q
theorem Inv.quiet{pins:List (Addr×Obj)}{O:St}{H:Hp}{s:Shared}(I:Inv X pins O H s):interactive X.env=false:=by simp [interactive,I.ok.kind]
def zkf(te:TE):TS:=fun D O H=>te O H fun _ H1=>D.nx O H1
theorem zfW(he:PE X e te)(hs:swapsWith e none pos.line X.env=pure false:=by rfl):PS X (.Expr e pos) (zkf te):=by
 intro pins s O H D I h;exact wpAny_Expr_any (thn (he pins s O H _ I h) fun v s1 ⟨x,H1,I1,r1,q1⟩=>⟨O,H1,I1,q1⟩) I.quiet hs
def zly(te:TE):TS:=fun D O H=>te O H D.rt
theorem zhk(he:PE X e te):PS X (.Return (some e) pos) (zly te):=by
 intro pins s O H D I h;exact wpAny_Return_some (thn (he pins s O H _ I h) fun v s1 ⟨x,H1,I1,r1,q1⟩=>⟨x,O,H1,I1,r1,q1⟩)
def zlY(c:TT)(t u:TS):TS:=fun D O H=>c O H fun b H1=>if b=true then t D O H1 else u D O H1
theorem zkB{c:Expr}{a b:List Stmt}{tc:TT}(hc:PT X c tc)(ha:PSs X a t)(hb:PSs X b u):PS X (.If c a b pos) (zlY tc t u):=by
 intro pins s O H D I h;refine wpAny_If (thn (hc pins s O H _ I h) fun d s1 ⟨H1,I1,q1⟩=>?_);cases d with
 | true=>exact ha pins s1 O H1 D I1 q1 | false=>exact hb pins s1 O H1 D I1 q1
def zh9:TS:=fun _ _ _=>False
theorem zcm:PS X st zh9:=fun _ _ _ _ _ _ h=>h.elim
end
abbrev TG:=V->St->Hp->(St->Hp->Prop)->Prop
abbrev TGs:=List V->St->Hp->(St->Hp->Prop)->Prop
def PG(X:Cx)(target:Expr)(t:TG):Prop:= ∀ (pins:List (Addr×Obj))(s:Shared)(O:St)(H:Hp)(v:V)(u:Value)(Q:St->Hp->Prop),Inv X pins O H s->yu v u->t v O H Q-> wpAny (model X.prog X.w) X.A (assign target X.env u) (fun _ s'=>∃ O' H',Inv X pins O' H' s'/\Q O' H') X.xe s
def PGs(X:Cx)(ts:List Expr)(t:TGs):Prop:= ∀ (pins:List (Addr×Obj))(s:Shared)(O:St)(H:Hp)(vs:List V)(us:List Value)(Q:St->Hp->Prop),Inv X pins O H s->ym vs us->t vs O H Q-> wpAny (model X.prog X.w) X.A (assignInOrder ((assignEach ts X.env).map (·.2)) us) (fun _ s'=>∃ O' H',Inv X pins O' H' s'/\Q O' H') X.xe s
abbrev zkl:=V->V->V->Hp->(Hp->Prop)->Prop
def zl2(X:Cx)(t:zkl):Prop:= ∀ (pins:List (Addr×Obj))(s:Shared)(O:St)(H:Hp)(o i v:V)(ov iv u:Value)(Q:Hp->Prop),Inv X pins O H s->yu o ov->yu i iv->yu v u->t o i v H Q-> wpAny (model X.prog X.w) X.A (setItem ov iv u) (fun _ s'=>∃ H',Inv X pins O H' s'/\Q H') X.xe s
abbrev TIp:=V->V->Hp->VK->Prop
def PIp(X:Cx)(op:Operator)(t:TIp):Prop:= ∀ (pins:List (Addr×Obj))(s:Shared)(O:St)(H:Hp)(x y:V)(v u:Value)(Q:VK),Inv X pins O H s->yu x v->yu y u->t x y H Q-> wpAny (model X.prog X.w) X.A (inplaceOp op v u) (EP X pins O Q) X.xe s
section
variable {X:Cx}{pos:Pos}
def z0U(i:Nat):TG:=fun v O H Q=>Q (O.set i (some v)) H
theorem yr{i:Nat}{x:Str}(hN:X.N.Nodup)(hi:X.N[i]? = some x)(hx:Loc X.env.scope x)(hf:X.fn x=true\/X.env.scope.names.lookup x=some .local:=by first | exact .inl rfl | exact .inr rfl | assumption):PG X (.Name x pos) (z0U i):=by
 intro pins s O H v u Q I r h;exact _bK (z1z I hN hi hx r (fun s' I'=>⟨_,H,I',h⟩) hf)
def zkR:TGs:=fun vs O H Q=>vs=[]/\Q O H
def zfK(t:TG)(u:TGs):TGs:=fun vs O H Q=>∃ v r,vs=v::r/\t v O H fun O' H'=>u r O' H' Q
theorem zbr:PGs X [] zkR:=by
 intro pins s O H vs us Q I r h;obtain ⟨e,h⟩:=h;subst e;cases r;exact assignInOrder_nil ⟨O,H,I,h⟩
theorem z1C{e:Expr}{es:List Expr}{t:TG}{u:TGs}(h1:PG X e t)(h2:PGs X es u) (hs:(assignEach (e::es) X.env).map (·.2)=assign e X.env::(assignEach es X.env).map (·.2):=by rfl):PGs X (e::es) (zfK t u):=by
 intro pins s O H vs us Q I r h;obtain ⟨v,vr,e1,h⟩:=h;subst e1;cases r with | cons r rr=>
  rw [hs];refine assignInOrder_cons (thn (h1 pins s O H _ _ _ I r h) fun _ s1 ⟨O1,H1,I1,q1⟩=>?_);exact h2 pins s1 O1 H1 _ _ Q I1 rr q1
def zl3(K:W.Frag)(n:Nat)(t:TGs):TG:=fun v O H Q=>∃ a xs,v=.ref a/\SqT K H a xs/\xs.length=n/\t xs O H Q
theorem zen{es:List Expr}{k:Nat}{t:TGs}{n:Nat}(hc:X.calm=true)(h:PGs X es t) (hn:(assignEach es X.env).length=n:=by rfl)(hst:(assignEach es X.env).findIdx? (·.1)=none:=by rfl):PG X (.Tuple es k pos) (zl3 X.K n t):=by
 intro pins s O H v u Q I r hw;obtain ⟨a,xs,e1,hq,hl,hw⟩:=hw;subst e1;cases r;obtain ⟨its,rv,ht,hz⟩:=I.tuple hq;refine assign_Tuple_tuple (I.ok.hd hc) ht (by simp [hn,<- hl,rv.length]) hst fun h' hx=>?_;have I1:Inv X pins O H {s with heap:=h'}:=I.kept (t':=s.toks) fun b o e=>hx b o (_x (_l e)) e;exact h pins _ O H xs _ Q I1 (by simpa using rv) hw
def zlQ(to ti:TE)(t:zkl):TG:=fun v O H Q=>to O H fun o H1=>ti O H1 fun i H2=>t o i v H2 fun H3=>Q O H3
theorem zgL{o i:Expr}{to ti:TE}{t:zkl}(ho:PE X o to)(hi:PE X i ti)(hs:zl2 X t) (ha:∀ v,assign (.Subscript o i pos) X.env v=(do
   let ov <- holding [v] (eval o X.env) let iv <- holding [v,ov] (eval i X.env)
   standAt pos
   holding [v,ov,iv] (setItem ov iv v)
   release [v,ov,iv] []):=by intro _;rfl):PG X (.Subscript o i pos) (zlQ to ti t):=by
 intro pins s O H v u Q I r h;rw [ha];refine _a (_au (thn (ho pins s O H _ I h) fun ov s1 ⟨x,H1,I1,r1,q1⟩=>?_));refine _a (_au (thn (hi pins s1 O H1 _ I1 q1) fun iv s2 ⟨y,H2,I2,r2,q2⟩=>?_));refine _a (_aJ (_a (_au (thn (hs pins s2 O H2 x y v ov iv u _ I2 r1 r2 r q2) fun _ s3 ⟨H3,I3,q3⟩=>?_))));exact wpAny_release ⟨O,H3,I3,q3⟩
def zjG(te:TE)(g:TG):TS:=fun D O H=>te O H fun x H1=>g x O H1 D.nx
theorem ze9{tg e:Expr}{te:TE}{g:TG}(he:PE X e te)(hg:PG X tg g)(hs:swapsWithSole [tg] e pos.line X.env=pure false:=by rfl)(hw:swappedStores [tg] e X.env=pure none:=by rfl) (h1:(assignEach [tg] X.env).map (·.2)=[assign tg X.env]:=by rfl):PS X (.Assign [tg] e pos) (zjG te g):=by
 intro pins s O H D I h;refine wpAny_Assign_stores (thn (he pins s O H _ I h) fun v s1 ⟨x,H1,I1,r1,q1⟩=>?_) hs hw;rw [h1];exact thn (hg pins s1 O H1 x v _ I1 r1 q1) fun _ s2 q=>q
theorem ziQ{i:Nat}{x:Str}{e:Expr}{te:TE}{pos':Pos}(hN:X.N.Nodup)(hi:X.N[i]? = some x)(hx:Loc X.env.scope x)(he:PE X e te)(hs:swapsWith e (some (.Name x pos')) pos.line X.env=pure false:=by rfl)(hf:X.fn x=true\/X.env.scope.names.lookup x=some .local:=by first | exact .inl rfl | exact .inr rfl | assumption): PS X (.Assign [.Name x pos'] e pos) (zjG te (z0U i)):=by
 intro pins s O H D I h;refine wpAny_Assign_Name (thn (he pins s O H _ I h) fun v s1 ⟨y,H1,I1,r1,q1⟩=>?_) hs;exact z1z I1 hN hi hx r1 (fun s2 I2=>⟨_,H1,I2,q1⟩) hf
def zm2(i:Nat)(te:TE)(ti:TIp):TS:=fun D O H=>∃ x,O[i]? = some (some x)/\te O H fun y H1=>ti x y H1 fun z H2=>D.nx (O.set i (some z)) H2
theorem zj9{i:Nat}{x:Str}{e:Expr}{te:TE}{op:Operator}{ti:TIp}{pos':Pos}(hN:X.N.Nodup)(hi:X.N[i]? = some x)(hx:Loc X.env.scope x)(he:PE X e te)(ho:PIp X op ti)(hf:X.fn x=true\/X.env.scope.names.lookup x=some .local:=by first | exact .inl rfl | exact .inr rfl | assumption): PS X (.AugAssign (.Name x pos') op e pos) (zm2 i te ti):=by
 intro pins s O H D I h;obtain ⟨v,e1,h⟩:=h;obtain ⟨m,hn,hl⟩:=I.loc;have vis:Vis X.env.scope x:=by rcases hx with k | k;exact .inl k;exact .inr (.inl k)
 obtain ⟨u,r,l⟩:=hl i x v hi e1 vis;refine wpAny_AugAssign_Name ?_;have go:wpAny (model X.prog X.w) X.A (eval e X.env) (fun w s₂=>wpAny (model X.prog X.w) X.A (inplaceOp op u w) (fun r s₃=>wpAny (model X.prog X.w) X.A (storeName X.env x r) (fun _=>SP X pins D .next) X.xe s₃) X.xe s₂) X.xe s:=by
  refine thn (he pins s O H _ I h) fun w s1 ⟨y,H1,I1,r1,q1⟩=>?_;refine thn (ho pins s1 O H1 v y u w _ I1 r r1 q1) fun z s2 ⟨zv,H2,I2,r2,q2⟩=>?_;exact z1z I2 hN hi hx r2 (fun s3 I3=>⟨_,H2,I3,q2⟩) hf
 rcases l with ⟨hk,hm⟩ | ⟨hk,c,hc,hcell⟩;·exact wpAny_loadName_local I.ok.kind hk hn hm go
 ·rcases hk with hk | hk;·exact wpAny_loadName_cell I.ok.kind hk hc hcell go
  ·rcases hx with k | k
   ·have:X.env.scope.names.lookup x=some .free:=hk;rw [k] at this;cases this
   ·have:X.env.scope.names.lookup x=some .free:=hk;rw [k] at this;cases this
def ipI(f:Int->Int->Int):TIp:=fun x y H Q=>∃ i j,x=.int i/\y=.int j/\Q (.int (f i j)) H
theorem ziM:PIp X .Add (ipI fun i j=>i+j):=by
 intro pins s O H x y v u Q I r1 r2 h;obtain ⟨i,j,e1,e2,q⟩:=h;subst e1;subst e2;obtain ⟨t,rfl⟩:=r1;obtain ⟨t',rfl⟩:=r2;exact iadd_int ⟨.int _,H,I.tok _,⟨_,rfl⟩,q⟩
end
section
variable {X:Cx}{pos:Pos}
def zhp(c:TT)(tb:TS):TS:=fun D O H=>∃ W:Nat->St->Hp->Prop,(∃ m,W m O H)/\∀ m O H,W m O H-> c O H fun b H1=>if b=true then ∃ N:St->Hp->Prop,(∀ O' H',N O' H'->∃ m',m'<m/\W m' O' H')/\tb {D with nx:=N,ct:=N,bk:=D.nx} O H1 else D.nx O H1
theorem zdu{c:Expr}{body:List Stmt}{tc:TT}{tb:TS}(hp:PassesOwn (model X.prog X.w) X.A X.env X.xe)(hc:PT X c tc)(hb:PSs X body tb):PS X (.While c body [] pos) (zhp tc tb):=by
 intro pins s O H D I h;obtain ⟨W,⟨m0,w0⟩,turn⟩:=h;refine wpAny_While (codeAny_whileLoop (fun n s'=>∃ O' H',Inv X pins O' H' s'/\W n O' H') ?_ m0 ⟨O,H,I,w0⟩);rintro n s1 ⟨O1,H1,I1,w1⟩;refine _a1 hp (thn (hc pins s1 O1 H1 _ I1 (turn n O1 H1 w1)) fun b s2 ⟨H2,I2,q2⟩=>?_);cases b with
 | true=>
  obtain ⟨N,hN,q2⟩:=q2;rw [_f rfl];refine _a1 hp (thn (hb pins s2 O1 H2 _ I2 q2) fun f s3 q3=>?_);cases f with
  | next=>
   obtain ⟨O3,H3,I3,n3⟩:=q3;obtain ⟨m',hm,w3⟩:=hN O3 H3 n3;exact ⟨m',hm,O3,H3,I3,w3⟩ | cont=>
   obtain ⟨O3,H3,I3,n3⟩:=q3;obtain ⟨m',hm,w3⟩:=hN O3 H3 n3;exact ⟨m',hm,O3,H3,I3,w3⟩ | brk=>exact q3 | ret v=>exact q3
 | false=>
  rw [_q _N];exact _cd ⟨O1,H2,I2,q2⟩
end
structure It where
 go:Nat->Hp->Prop
 yld:Nat->Hp->V->Hp->Prop
 stop:Nat->Hp->Prop
def z2G(X:Cx)(pins:List (Addr×Obj))(H:Hp)(b:Addr):Prop:= H b=none/\b≠X.env.locals/\b∉X.fs/\(b∈X.ex\/X.s₀.heap.objs.size<=b)/\(∀ x c,X.env.cells.lookup x=some c->c≠b)/\∀ p∈X.pn++pins,p.1≠b
theorem Inv.fpOk{X:Cx}{pins:List (Addr×Obj)}{O:St}{H H':Hp}{s:Shared}{b:Addr}(I:Inv X pins O H s)(hb:s.heap.objs.size<=b)(hn:H' b=none):z2G X pins H' b:=by
 refine ⟨hn,_cn (_r I.lt hb),I.nofs hb,.inr (_U I.sz hb),fun x c e z=>?_,fun p hp z=>?_⟩
 ·obtain ⟨v,q⟩:=I.cell x c e;exact absurd (_r q.lt (by rw [z];exact hb)) (_am _)
 ·exact absurd (_r (_l (I.pin p hp).1) (by rw [z];exact hb)) (_am _)
structure zcI(P:Program)(w:World)(K:W.Frag)(tg:Expr)(J:It)(fp:List Addr)(it:Addr)(tn:Nat->Heap->Prop):Prop where
 mem:it∈fp
 obj:∀ i h,tn i h->∀ b∈fp,∃ o,h.get? b=some o/\∀ v,o.data≠.cell v
 keep:∀ i h h',tn i h->(∀ b∈fp,∀ o,h.get? b=some o->h'.get? b=some o)->tn i h'
 item:∀ (X:Cx),X.prog=P->X.w=w->X.K=K->X.calm=true->∀ (i:Nat)(pins:List (Addr×Obj))(s:Shared)(O:St)(H:Hp)(E:Value->Shared->Prop),Inv X pins O H s->(∀ b∈fp,z2G X pins H b)->tn i s.heap->J.go i H-> wpAny (model P w) X.A (pyNext (.ref it)) (fun r s1=>∃ u,r=some u/\ wpAny (model P w) X.A (letOwnedTupleGo tg (.ref it) u) (fun _ s2=>∃ x H',Inv X pins O H' s2/\yu x u/\J.yld i H x H'/\tn (i+1) s2.heap/\∀ b∈fp,H' b=none) E s1) E s
 done:∀ (X:Cx),X.prog=P->X.w=w->X.K=K->X.calm=true->∀ (i:Nat)(pins:List (Addr×Obj))(s:Shared)(O:St)(H:Hp)(E:Value->Shared->Prop),Inv X pins O H s->(∀ b∈fp,z2G X pins H b)->tn i s.heap->J.stop i H-> wpAny (model P w) X.A (pyNext (.ref it)) (fun r s1=>r=none/\Inv X pins O H s1) E s
 self:∀ (A:Around)(i:Nat)(s:Shared)(Q:Value->Shared->Prop)(E:Value->Shared->Prop),tn i s.heap->Q (.ref it) s->wpAny (model P w) A (pyIter (.ref it)) Q E s
abbrev TI:=St->Hp->(It->Hp->Prop)->Prop
def PIE(X:Cx)(pins:List (Addr×Obj))(O:St)(tg:Expr)(R:It->Hp->Prop)(itv:Value)(s2:Shared):Prop:= ∃ (it:Addr)(fp:List Addr)(tn:Nat->Heap->Prop)(J:It)(H':Hp),itv=.ref it/\Inv X pins O H' s2/\zcI X.prog X.w X.K tg J fp it tn/\tn 0 s2.heap/\(∀ b∈fp,z2G X pins H' b)/\R J H'
def PI(X:Cx)(tg iter:Expr)(wi:TI):Prop:= ∀ (pins:List (Addr×Obj))(s:Shared)(O:St)(H:Hp)(R:It->Hp->Prop),Inv X pins O H s->wi O H R-> wpAny (model X.prog X.w) X.A (eval iter X.env) (fun v s1=>wpAny (model X.prog X.w) X.A (pyIter v) (PIE X pins O tg R) X.xe s1) X.xe s
theorem zcl{M:Model}{A:Around}{E:Value->Shared->Prop}{s:Shared}{tg:Expr}{it:Addr}{u:Value}{o:Obj}{n:String}{vs:Array Value}{Q:Unit->Shared->Prop}(ho:s.heap.get? it=some o)(hc:o.cls=.type n)(hd:o.data=.fields vs) (hn:["enumerate","zip","dict_itemiterator","dict_reverseitemiterator","odict_iterator","itertools.zip_longest","itertools.pairwise"].contains n=false)(hQ:Q () s):wpAny M A (letOwnedTupleGo tg (.ref it) u) Q E s:=by
  unfold letOwnedTupleGo;cases tg<;>first
    | exact _c hQ | (cases u<;>first
        | exact _c hQ
        | (refine _a (wpAny_load ho ?_);rw [hc,hd];show wpAny M A (if (["enumerate","zip","dict_itemiterator","dict_reverseitemiterator","odict_iterator","itertools.zip_longest","itertools.pairwise"].contains n&&vs[0]? == some (rawInt _))=true then _ else _) Q E s;rw [_q (by intro h;rw [hn,Bool.false_and] at h;cases h)];exact _c hQ))
def Itl(K:W.Frag)(a:Addr):It:= ⟨fun i H=>∃ xs x,SqL K H a xs/\xs[i]? = some x,fun i H x H'=>H'=H/\∀ xs,SqL K H a xs->xs[i]? = some x,fun i H=>∃ xs,SqL K H a xs/\xs.length<=i⟩
def Itt(K:W.Frag)(a:Addr):It:= ⟨fun i H=>∃ xs x,SqT K H a xs/\xs[i]? = some x,fun i H x H'=>H'=H/\∀ xs,SqT K H a xs->xs[i]? = some x,fun i H=>∃ xs,SqT K H a xs/\xs.length<=i⟩
def Itr(lo:Int)(n:Nat):It:=⟨fun i _=>i<n,fun i H x H'=>H'=H/\x=.int (lo+i),fun i _=>n<=i⟩
theorem zaT{P:Program}{w:World}{K:W.Frag}{tg:Expr}(a it:Addr):zcI P w K tg (Itl K a) [it] it (fun i h=>h.IsListIter it a i) where
 mem:=by simp
 obj:=fun i h st b hb=>by
  have e:b=it:=by simpa using hb
  subst e;obtain ⟨o,e,c,d⟩:=st;exact ⟨o,e,fun v z=>by rw [d] at z;cases z⟩
 keep:=fun i h h' st k=>st.at fun o e=>k it (by simp) o e;item:=by
  intro X hP hw hK hc i pins s O H E I hf st hg;subst hP hw hK;obtain ⟨xs,x,hq,hx⟩:=hg;obtain ⟨its,rv,p,hz⟩:=I.list hq;obtain ⟨u,hu,ru⟩:=rv.get hx;obtain ⟨f0,f1,f2,f3,f4,f5⟩:=hf it (by simp);refine wpAny_pyNext_list_item st p.isList (x:=u) (by simpa using hu) fun h' st' sb=>?_;have I1:Inv X pins O H {s with heap:=h'}:=I.turned (t':=s.toks) (fun b o hb e=>(sb.2 b hb).trans e) f0 f1 f3 f4 f5;obtain ⟨o,e,c,d⟩:=id st';exact ⟨u,rfl,zcl (s:={s with heap:=h'}) e c d (by decide) ⟨x,H,I1,ru,⟨rfl,fun ys hy=>by rw [I.list_inj hy hq];exact hx⟩,st',fun b hb=>(hf b hb).1⟩⟩
 done:=by
  intro X hP hw hK hc i pins s O H E I hf st hg;subst hP hw hK;obtain ⟨xs,hq,hx⟩:=hg;obtain ⟨its,rv,p,hz⟩:=I.list hq;obtain ⟨f0,f1,f2,f3,f4,f5⟩:=hf it (by simp);have hl:=rv.length;exact wpAny_pyNext_list_end (I.ok.hd hc) st p.isList (by simp;omega) fun h' eb=>⟨rfl,I.turned (t':=s.toks) (fun b o hb e=>eb b o hb e) f0 f1 f3 f4 f5⟩
 self:=fun _ _ _ _ _ st h=>wpAny_pyIter_listiter st h
theorem z9k {P:Program} {w:World} {K:W.Frag} {tg:Expr} (a it:Addr):zcI P w K tg (Itt K a) [it] it (fun i h=>h.IsTupleIter it a i) where
 mem:=by simp
 obj:=fun i h st b hb=>by
  have e:b=it:=by simpa using hb
  subst e;obtain ⟨o,e,c,d⟩:=st;exact ⟨o,e,fun v z=>by rw [d] at z;cases z⟩
 keep:=fun i h h' st k=>st.at fun o e=>k it (by simp) o e;item:=by
  intro X hP hw hK hc i pins s O H E I hf st hg;subst hP hw hK;obtain ⟨xs,x,hq,hx⟩:=hg;obtain ⟨its,rv,p,hz⟩:=I.tuple hq;obtain ⟨u,hu,ru⟩:=rv.get hx;obtain ⟨f0,f1,f2,f3,f4,f5⟩:=hf it (by simp);refine wpAny_pyNext_tuple_item st (show s.heap.IsTuple a its.toArray from p) (x:=u) (by simpa using hu) fun h' st' sb=>?_;have I1:Inv X pins O H {s with heap:=h'}:=I.turned (t':=s.toks) (fun b o hb e=>(sb.2 b hb).trans e) f0 f1 f3 f4 f5;obtain ⟨o,e,c,d⟩:=id st';exact ⟨u,rfl,zcl (s:={s with heap:=h'}) e c d (by decide) ⟨x,H,I1,ru,⟨rfl,fun ys hy=>by rw [I.tuple_inj hy hq];exact hx⟩,st',fun b hb=>(hf b hb).1⟩⟩
 done:=by
  intro X hP hw hK hc i pins s O H E I hf st hg;subst hP hw hK;obtain ⟨xs,hq,hx⟩:=hg;obtain ⟨its,rv,p,hz⟩:=I.tuple hq;obtain ⟨f0,f1,f2,f3,f4,f5⟩:=hf it (by simp);have hl:=rv.length;exact wpAny_pyNext_tuple_end (I.ok.hd hc) st (show s.heap.IsTuple a its.toArray from p) (by simp;omega) fun h' eb=>⟨rfl,I.turned (t':=s.toks) (fun b o hb e=>eb b o hb e) f0 f1 f3 f4 f5⟩
 self:=fun _ _ _ _ _ st h=>wpAny_pyIter_tupleiter st h
theorem z8X {P:Program} {w:World} {K:W.Frag} {tg:Expr} (it:Addr) (lo:Int) (n:Nat):zcI P w K tg (Itr lo n) [it] it (fun i h=>IsRangeIter h it (lo+(i:Nat)*1) ((n:Int)-(i:Nat)) 1) where
 mem:=by simp
 obj:=fun i h st b hb=>by
  have e:b=it:=by simpa using hb
  subst e;exact ⟨_,st,fun v z=>by
   have z':Data.fields _=Data.cell v:=z;cases z'⟩
 keep:=fun i h h' st k=>k it (by simp) _ st;item:=by
  intro X hP hw hK hc i pins s O H E I hf st hg;subst hP hw hK;obtain ⟨f0,f1,f2,f3,f4,f5⟩:=hf it (by simp);have W:=Walks.range (prog:=X.prog) (w:=X.w) (I.ok.hd hc) it lo 1 n;refine W.item i s _ _ hg st fun v h' tk hv st' kk=>?_;obtain ⟨t,rfl⟩:=hv;have I1:Inv X pins O H {s with heap:=h',toks:=tk}:=I.turned (fun b o hb e=>kk b o (by simpa using hb) e) f0 f1 f3 f4 f5;refine ⟨_,rfl,zcl (s:={s with heap:=h',toks:=tk}) (n:="range_iterator") st' rfl rfl (by decide) ⟨.int (lo+i),H,I1,⟨t,?_⟩,⟨rfl,rfl⟩,st',fun b hb=>(hf b hb).1⟩⟩;rw [Int.mul_one]
 done:=by
  intro X hP hw hK hc i pins s O H E I hf st hg;subst hP hw hK;obtain ⟨f0,f1,f2,f3,f4,f5⟩:=hf it (by simp);exact wpAny_pyNext_range_end (I.ok.hd hc) st (by have:n<=i:=hg;omega) fun h' eb=>⟨rfl,I.turned (t':=s.toks) (fun b o hb e=>eb b o hb e) f0 f1 f3 f4 f5⟩
 self:=fun _ _ _ _ _ st h=>wpAny_pyIter_rangeiter st h
section
variable {X:Cx}{tg:Expr}
theorem z7R{pins:List (Addr×Obj)}{O:St}{H:Hp}{s:Shared}{R:It->Hp->Prop}{E:Value->Shared->Prop}{lo hi:Int}{t u v:Tok}{tk:Nat}(I:Inv X pins O H s)(h1:-(2 ^ 62)<=lo)(h2:lo<2 ^ 62)(h3:-(2 ^ 62)<=hi)(h4:hi<2 ^ 62) (q:R (Itr lo (hi-lo).toNat) H):wpAny (model X.prog X.w) X.A (pyIter (.ref s.heap.objs.size)) (PIE X pins O tg R) E {s with heap:=s.heap.push {cls:=.type "range",data:=.fields #[.int lo t,.int hi u,.int 1 v]},toks:=tk}:=by
 refine wpAny_pyIter_range (IsRange.new ..) (small_one h1 h2 h3 h4) ?_;have I1:Inv X pins O H {s with heap:=s.heap.push {cls:=.type "range",data:=.fields #[.int lo t,.int hi u,.int 1 v]},toks:=tk}:=I.kept fun b o e=>_d _ e;refine ⟨(s.heap.push {cls:=.type "range",data:=.fields #[.int lo t,.int hi u,.int 1 v]}).objs.size,[(s.heap.push {cls:=.type "range",data:=.fields #[.int lo t,.int hi u,.int 1 v]}).objs.size],_,_,H,rfl, I1.kept (t':=tk) fun b o e=>_d _ e,z8X _ lo (hi-lo).toNat,?_,fun b hb=>?_,q⟩
 ·have e1:lo+((0:Nat):Int)*1=lo:=by simp
  have e2:(((hi-lo).toNat:Nat):Int)-((0:Nat):Int)=Builtin.Range.rangeSize lo hi 1:=by rw [rangeSize_one];split<;>omega
  show IsRangeIter _ _ (lo+((0:Nat):Int)*1) ((((hi-lo).toNat:Nat):Int)-((0:Nat):Int)) 1;rw [e1,e2];exact _h _ rfl
 ·have e:b=(s.heap.push {cls:=.type "range",data:=.fields #[.int lo t,.int hi u,.int 1 v]}).objs.size:=by simpa using hb
  subst e;exact I1.fpOk (_g _) (I1.hok.fresh (_g _))
def zjx(ta:TA):TI:=fun O H R=>ta O H fun vs H1=>∃ j:Int,vs=[.int j]/\-(2 ^ 62)<=j/\j<2 ^ 62/\R (Itr 0 j.toNat) H1
def zk4(ta:TA):TI:=fun O H R=>ta O H fun vs H1=>∃ i j:Int,vs=[.int i,.int j]/\(-(2 ^ 62)<=i/\i<2 ^ 62/\-(2 ^ 62)<=j/\j<2 ^ 62)/\R (Itr i (j-i).toNat) H1
theorem zbV{a:Expr}{ta:TA}{p pos:Pos}(hg:Gl X "range")(hm:X.mg "range"=none)(ha:PA X [a] ta)(hs:starEach [a] X.env=[(false,eval a X.env)]:=by rfl):PI X tg (.Call (.Name "range" p) [a] [] pos) (zjx ta):=by
 intro pins s O H R I h;refine Call_ (z2w I hg hm boot_range (_aA (thn (ha pos pins s O H _ I h) fun us s1 ⟨vs,H1,I1,r1,q1⟩=>?_) hs rfl));obtain ⟨j,e,q1,q2,q⟩:=q1;subst e;cases r1 with | cons r rr=>
  cases rr;obtain ⟨t,rfl⟩:=r;exact call_range_1 (z7R I1 (by omega) (by omega) q1 q2 (by simpa using q))
theorem zar{a b:Expr}{ta:TA}{p pos:Pos}(hg:Gl X "range")(hm:X.mg "range"=none)(ha:PA X [a,b] ta)(hs:starEach [a,b] X.env=[(false,eval a X.env),(false,eval b X.env)]:=by rfl)(hs2:starEach [b] X.env=[(false,eval b X.env)]:=by rfl): PI X tg (.Call (.Name "range" p) [a,b] [] pos) (zk4 ta):=by
 intro pins s O H R I h;refine Call_ (z2w I hg hm boot_range (_aA (thn (ha pos pins s O H _ I h) fun us s1 ⟨vs,H1,I1,r1,q1⟩=>?_) (by rw [hs,hs2]) (by rw [hs2];rfl)));obtain ⟨i,j,e,⟨q1,q2,q3,q4⟩,q⟩:=q1;subst e;cases r1 with | cons r rr=> cases rr with | cons r' rr=>
   cases rr;obtain ⟨t,rfl⟩:=r;obtain ⟨t',rfl⟩:=r';exact call_range_2 (z7R I1 q1 q2 q3 q4 q)
def zlO(wi:TI)(g:TG)(tb:TS):TS:=fun D O H=>wi O H fun J H1=>∃ W:Nat->Nat->St->Hp->Prop,(∃ m,W 0 m O H1)/\∀ i m O H,W i m O H-> (J.stop i H/\D.nx O H)\/(J.go i H/\∃ N:St->Hp->Prop,(∀ O' H',N O' H'->∃ m',m'<m/\W (i+1) m' O' H')/\∀ x H',J.yld i H x H'->g x O H' fun O2 H2=>tb {D with nx:=N,ct:=N,bk:=D.nx} O2 H2)
def z3C(fp:List Addr)(h:Heap):List (Addr×Obj):=fp.filterMap fun b=>(h.get? b).map fun o=>(b,o)
theorem wC{fp:List Addr}{h:Heap}{b:Addr}{o:Obj}(hb:b∈fp)(e:h.get? b=some o):(b,o)∈z3C fp h:=_bD.mpr ⟨b,hb,by rw [e];rfl⟩
theorem zaG{fp:List Addr}{h:Heap}{p:Addr×Obj}(hp:p∈z3C fp h):p.1∈fp/\h.get? p.1=some p.2:=by
 obtain ⟨b,hb,e⟩:=_bD.mp hp;cases q:h.get? b with
 | none=>rw [q] at e;cases e | some o=>
  rw [q] at e;have e':(b,o)=p:=_K e;subst e';exact ⟨hb,q⟩
theorem Inv.pinned{pins:List (Addr×Obj)}{O:St}{H:Hp}{s:Shared}{fp:List Addr}(I:Inv X pins O H s)(hf:∀ b∈fp,z2G X pins H b)(ho:∀ b∈fp,∃ o,s.heap.get? b=some o/\∀ v,o.data≠.cell v):Inv X (pins++z3C fp s.heap) O H s:= I.pins_of fun p hp=>(_V.mp hp).elim (fun z=>I.pin p (_p _ z)) fun z=>by
  obtain ⟨hb,e⟩:=zaG z;obtain ⟨f0,f1,f2,_⟩:=hf p.1 hb;obtain ⟨o,e',d⟩:=ho p.1 hb;rw [e] at e';cases e';exact ⟨e,f0,f1,f2,d⟩
theorem Inv.unpinned{pins pl:List (Addr×Obj)}{O:St}{H:Hp}{s:Shared}(I:Inv X (pins++pl) O H s):Inv X pins O H s:=I.pins_of fun p hp=>I.pin p (_p _ (_ad _ hp))
theorem zhX{iter:Expr}{body:List Stmt}{wi:TI}{g:TG}{tb:TS}{pos:Pos}(hp:PassesOwn (model X.prog X.w) X.A X.env X.xe)(hc:X.calm=true)(hi:PI X tg iter wi)(hg:PG X tg g)(hb:PSs X body tb) (hs:∀ x,foldedSetIterable iter X.env x=pure x:=by intro _;rfl):PS X (.For tg iter body [] pos) (zlO wi g tb):=by
 intro pins s O H D I h;refine wpAny_For (thn (hi pins s O H _ I h) fun v s1 h1=>thn h1 fun itv s2 h2=>?_) hs;obtain ⟨it,fp,tn,J,H2,e,I2,T,st2,f2,W,⟨m0,w0⟩,turn⟩:=h2;subst e;have stat:∀ {H':Hp},(∀ b∈fp,H' b=none)->∀ b∈fp,z2G X pins H' b:=fun hn b hb=>⟨hn b hb,(f2 b hb).2⟩;refine codeAny_forLoop_any (fun n s'=>∃ i O' H',Inv X pins O' H' s'/\tn i s'.heap/\(∀ b∈fp,H' b=none)/\W i n O' H') ?_ m0 ⟨0,O,H2,I2,st2,fun b hb=>(f2 b hb).1,w0⟩;rintro n s3 ⟨i,O3,H3,I3,st3,fr3,w3⟩;rcases turn i n O3 H3 w3 with ⟨stop,qn⟩ | ⟨go,N,hN,step⟩
 ·refine _a1 hp (thn (T.done X rfl rfl rfl hc i pins s3 O3 H3 X.xe I3 (stat fr3) st3 stop) fun r s4 ⟨hr,I4⟩=>?_);subst hr;exact _cd ⟨O3,H3,I4,qn⟩
 ·refine _a1 hp (thn (T.item X rfl rfl rfl hc i pins s3 O3 H3 X.xe I3 (stat fr3) st3 go) fun r s4 ⟨u,hr,h4⟩=>?_);subst hr;refine _a1 hp (thn h4 fun _ s5 ⟨x,H5,I5,r5,y5,st5,fr5⟩=>?_);have I5':=I5.pinned (stat fr5) (T.obj _ _ st5);refine _a1 hp (thn (hg _ s5 O3 H5 x u _ I5' r5 (step x H5 y5)) fun _ s6 ⟨O6,H6,I6,q6⟩=>?_);refine _a1 hp (thn (hb _ s6 O6 H6 _ I6 q6) fun f s7 q7=>?_);have again:∀ {O7:St}{H7:Hp},Inv X (pins++z3C fp s5.heap) O7 H7 s7->N O7 H7->∃ m,m<n/\∃ i O' H',Inv X pins O' H' s7/\tn i s7.heap/\(∀ b∈fp,H' b=none)/\W i m O' H':=fun {O7 H7} I7 n7=>by
   obtain ⟨m',hm,w7⟩:=hN O7 H7 n7;refine ⟨m',hm,i+1,O7,H7,I7.unpinned,T.keep _ _ _ st5 fun b hb o e=>(I7.pin (b,o) (_p _ (_p _ (wC hb e)))).1,fun b hb=>?_,w7⟩;obtain ⟨o,e,d⟩:=T.obj _ _ st5 b hb;exact (I7.pin (b,o) (_p _ (_p _ (wC hb e)))).2.1
  cases f with
  | next=>obtain ⟨O7,H7,I7,n7⟩:=q7;exact again I7 n7 | cont=>obtain ⟨O7,H7,I7,n7⟩:=q7;exact again I7 n7 | brk=>obtain ⟨O7,H7,I7,q7⟩:=q7;exact ⟨O7,H7,I7.unpinned,q7⟩ | ret v=>obtain ⟨x7,O7,H7,I7,r7,q7⟩:=q7;exact ⟨x7,O7,H7,I7.unpinned,r7,q7⟩
end
abbrev R2:=V->V->Hp->VK->Prop
def OpR(X:Cx)(f:Value->Value->Sem Value)(r:R2):Prop:= ∀ (pins:List (Addr×Obj))(s:Shared)(O:St)(H:Hp)(x y:V)(v u:Value)(Q:VK),Inv X pins O H s->yu x v->yu y u->r x y H Q-> wpAny (model X.prog X.w) X.A (f v u) (EP X pins O Q) X.xe s
def UnR(X:Cx)(f:Value->Sem Value)(r:V->Hp->VK->Prop):Prop:= ∀ (pins:List (Addr×Obj))(s:Shared)(O:St)(H:Hp)(x:V)(v:Value)(Q:VK),Inv X pins O H s->yu x v->r x H Q-> wpAny (model X.prog X.w) X.A (f v) (EP X pins O Q) X.xe s
def xK(X:Cx)(f:Value)(r:List V->Hp->VK->Prop):Prop:= ∀ (pins:List (Addr×Obj))(s:Shared)(O:St)(H:Hp)(xs:List V)(us:List Value)(Q:VK),Inv X pins O H s->ym xs us->r xs H Q-> wpAny (model X.prog X.w) X.A (call f us) (EP X pins O Q) X.xe s
def tOp(r:R2)(ta tb:TE):TE:=fun O H Q=>ta O H fun x H1=>tb O H1 fun y H2=>r x y H2 Q
def tUn(r:V->Hp->VK->Prop)(ta:TE):TE:=fun O H Q=>ta O H fun x H1=>r x H1 Q
def rI(C:Int->Int->Prop)(g:Int->Int->V):R2:=fun x y H Q=>∃ i j,x=.int i/\y=.int j/\C i j/\Q (g i j) H
def rI0(g:Int->Int->V):R2:=fun x y H Q=>∃ i j,x=.int i/\y=.int j/\Q (g i j) H
def rU(g:Int->V):V->Hp->VK->Prop:=fun x H Q=>∃ i,x=.int i/\Q (g i) H
section
variable {X:Cx}{a b c:Expr}{ta tb tc:TE}{pos:Pos}
theorem zkA(ha:PE X a ta)(hb:PE X b tb){pins:List (Addr×Obj)}{s:Shared}{O:St}{H:Hp}{R:V->V->Hp->Prop}(I:Inv X pins O H s) (h:ta O H fun x H1=>tb O H1 fun y H2=>R x y H2){Q:Value->Shared->Prop}{f:Value->Value->Sem Value} (hf:∀ v u s2 x y H2,Inv X pins O H2 s2->yu x v->yu y u->R x y H2->wpAny (model X.prog X.w) X.A (f v u) Q X.xe s2): wpAny (model X.prog X.w) X.A (eval a X.env) (fun v s₁=>wpAny (model X.prog X.w) X.A (eval b X.env) (fun u s₂=>wpAny (model X.prog X.w) X.A (f v u) Q X.xe s₂) X.xe s₁) X.xe s:=by
 refine thn (ha pins s O H _ I h) fun v s1 ⟨x,H1,I1,r1,q1⟩=>?_;refine thn (hb pins s1 O H1 _ I1 q1) fun u s2 ⟨y,H2,I2,r2,q2⟩=>?_;exact hf v u s2 x y H2 I2 r1 r2 q2
theorem zjo{op:Operator}{r:R2}(ho:OpR X (binaryOp op) r)(ha:PE X a ta)(hb:PE X b tb):PE X (.BinOp a op b pos) (tOp r ta tb):=by
 intro pins s O H Q I h;exact wpAny_BinOp (zkA ha hb I h fun v u s2 x y H2 I2 rx ry q=>ho pins s2 O H2 x y v u Q I2 rx ry q)
theorem ziy{op:UnaryOp}{r:V->Hp->VK->Prop}(ho:UnR X (unaryOp op) r)(ha:PE X a ta):PE X (.UnaryOp op a pos) (tUn r ta):=by
 intro pins s O H Q I h;exact UnaryOp_ (thn (ha pins s O H _ I h) fun v s1 ⟨x,H1,I1,r1,q1⟩=>ho pins s1 O H1 x v Q I1 r1 q1)
theorem opI {f:Value->Value->Sem Value} {C:Int->Int->Prop} {g:Int->Int->Int} (rule:∀ (i j:Int) (t u:Tok) (s:Shared) (Q:Value->Shared->Prop) (E:Value->Shared->Prop),C i j->Q (.int (g i j) s.toks) {s with toks:=s.toks+1}->wpAny (model X.prog X.w) X.A (f (.int i t) (.int j u)) Q E s): OpR X f (rI C fun i j=>.int (g i j)):=by
 intro pins s O H x y v u Q I rx ry h;obtain ⟨i,j,rfl,rfl,hc,q⟩:=h;obtain ⟨t,rfl⟩:=rx;obtain ⟨t',rfl⟩:=ry;exact rule i j t t' s _ _ hc ⟨.int (g i j),H,I.tok _,⟨_,rfl⟩,q⟩
theorem zkY {f:Value->Value->Sem Value} {g:Int->Int->Int} (rule:∀ (i j:Int) (t u:Tok) (s:Shared) (Q:Value->Shared->Prop) (E:Value->Shared->Prop),Q (.int (g i j) s.toks) {s with toks:=s.toks+1}->wpAny (model X.prog X.w) X.A (f (.int i t) (.int j u)) Q E s): OpR X f (rI0 fun i j=>.int (g i j)):=by
 intro pins s O H x y v u Q I rx ry h;obtain ⟨i,j,rfl,rfl,q⟩:=h;obtain ⟨t,rfl⟩:=rx;obtain ⟨t',rfl⟩:=ry;exact rule i j t t' s _ _ ⟨.int (g i j),H,I.tok _,⟨_,rfl⟩,q⟩
theorem zjk{f:Value->Value->Sem Value}{g:Int->Int->Bool} (rule:∀ (i j:Int)(t u:Tok)(s:Shared)(Q:Value->Shared->Prop)(E:Value->Shared->Prop),Q (.bool (g i j)) s->wpAny (model X.prog X.w) X.A (f (.int i t) (.int j u)) Q E s): OpR X f (rI0 fun i j=>.bl (g i j)):=by
 intro pins s O H x y v u Q I rx ry h;obtain ⟨i,j,rfl,rfl,q⟩:=h;obtain ⟨t,rfl⟩:=rx;obtain ⟨t',rfl⟩:=ry;exact rule i j t t' s _ _ ⟨.bl (g i j),H,I,rfl,q⟩
def zll(i j:Int):Prop:=0<=j/\j<=1000000/\i.natAbs<2 ^ 64
theorem zhV:OpR X (binaryOp .Add) (rI0 fun i j=>.int (i+j)):=zkY fun _ _ _ _ _ _ _ q=>add_int q
theorem zh1:OpR X (binaryOp .Sub) (rI0 fun i j=>.int (i-j)):=zkY fun _ _ _ _ _ _ _ q=>sub_int q
theorem zhd:OpR X (binaryOp .Mod) (rI (fun _ j=>0<j) fun i j=>.int (i % j)):=opI fun i j _ _ _ _ _ hc q=>by
 have h1:(0:Int)<j:=hc;exact mod_int' (by omega) (by rw [Int.fmod_eq_emod_of_nonneg i (by omega)];exact q)
theorem ziz:OpR X (binaryOp .Pow) (rI zll fun i j=>.int (i ^ j.toNat)):=opI fun _ _ _ _ _ _ _ hc q=>pow_int_small hc.1 hc.2.1 hc.2.2 q
theorem unI {f:Value->Sem Value} {g:Int->Int} (rule:∀ (i:Int) (t:Tok) (s:Shared) (Q:Value->Shared->Prop) (E:Value->Shared->Prop),Q (.int (g i) s.toks) {s with toks:=s.toks+1}->wpAny (model X.prog X.w) X.A (f (.int i t)) Q E s): UnR X f (rU fun i=>.int (g i)):=by
 intro pins s O H x v Q I rx h;obtain ⟨i,rfl,q⟩:=h;obtain ⟨t,rfl⟩:=rx;exact rule i t s _ _ ⟨.int (g i),H,I.tok _,⟨_,rfl⟩,q⟩
theorem ze4:UnR X (unaryOp .USub) (rU fun i=>.int (-i)):=unI fun _ _ _ _ _ q=>neg_int q
end
section
variable {X:Cx}{a b c:Expr}{ta tb tc:TE}{pos:Pos}
theorem zhu{pins:List (Addr×Obj)}{O:St}{H:Hp}{s:Shared}{Q:VK}{k k':Bool}(I:Inv X pins O H s)(q:Q (.bl k) H)(e:k=k'):EP X pins O Q (.bool k') s:=by
 subst e;exact ⟨.bl k,H,I,rfl,q⟩
theorem zkw:OpR X (compareOp .Lt) (rI0 fun i j=>.bl (decide (i<j))):=zjk fun _ _ _ _ _ _ _ q=>lt_int q
theorem zjq:OpR X (compareOp .LtE) (rI0 fun i j=>.bl (decide (i<=j))):=zjk fun _ _ _ _ _ _ _ q=>le_int q
theorem zk1:OpR X (compareOp .Gt) (rI0 fun i j=>.bl (decide (j<i))):=zjk fun _ _ _ _ _ _ _ q=>gt_int q
theorem zk9:OpR X (compareOp .GtE) (rI0 fun i j=>.bl (decide (j<=i))):=zjk fun _ _ _ _ _ _ _ q=>ge_int q
theorem zgO:OpR X (compareOp .Is) (fun x y H Q=>y=.non/\Q (.bl (decide (x=.non))) H):=by
 intro pins s O H x y v u Q I rx ry h;obtain ⟨rfl,q⟩:=h;cases ry;refine is_none_gen (zhu I q ?_);cases x<;>first
  | (cases rx;rfl) | (obtain ⟨t,rfl⟩:=rx;rfl)
theorem OpR.or{f:Value->Value->Sem Value}{r r':R2}(h:OpR X f r)(h':OpR X f r'):OpR X f (fun x y H Q=>r x y H Q\/r' x y H Q):=by
 intro pins s O H x y v u Q I rx ry q;rcases q with q | q;·exact h pins s O H x y v u Q I rx ry q
 ·exact h' pins s O H x y v u Q I rx ry q
theorem zex(b:Expr){op:CmpOp}(h:op≠.In:=by decide)(h2:op≠.NotIn:=by decide):behindInMarks op b=false:=by
 have e1:(op==CmpOp.In)=false:=by cases op<;>first | rfl | exact absurd rfl h
 have e2:(op==CmpOp.NotIn)=false:=by cases op<;>first | rfl | exact absurd rfl h2
 cases b<;>simp [behindInMarks,e1,e2]
theorem zbv{op:CmpOp}{r:R2}(ho:OpR X (compareOp op) r)(ha:PE X a ta)(hb:PE X b tb)(hm:behindInMarks op b=false):PE X (.Compare a [op] [b] pos) (tOp r ta tb):=by
 intro pins s O H Q I h;exact wpAny_Compare1 (zkA ha hb I h fun v u s2 x y H2 I2 rx ry q=>ho pins s2 O H2 x y v u Q I2 rx ry q) hm
def zfA(t:TE):TT:=fun O H Q=>t O H fun x H'=>∃ k,x=.bl k/\Q k H'
theorem zfp{op:CmpOp}{r:R2}(ho:OpR X (compareOp op) r)(ha:PE X a ta)(hb:PE X b tb)(hm:behindInMarks op b=false):PT X (.Compare a [op] [b] pos) (zfA (tOp r ta tb)):=by
 intro pins s O H Q I h;refine wpAny_isTrue_Compare1 (thn (ha pins s O H _ I h) fun v s1 ⟨x,H1,I1,r1,q1⟩=>thn (hb pins s1 O H1 _ I1 q1) fun u s2 ⟨y,H2,I2,r2,q2⟩=> thn (ho pins s2 O H2 x y v u _ I2 r1 r2 q2) fun c s3 ⟨z,H3,I3,r3,k,e,q3⟩=>?_) hm;subst e;cases r3;exact _aq ⟨H3,I3,q3⟩
def za8(r r':R2)(ta tb tc:TE):TE:=fun O H Q=>ta O H fun x H1=>tb O H1 fun y H2=>r x y H2 fun z H3=>∃ k,z=.bl k/\ (if k=true then tc O H3 fun w' H4=>r' y w' H4 Q else Q (.bl false) H3)
theorem zd6{op op':CmpOp}{r r':R2}(ho:OpR X (compareOp op) r)(ho':OpR X (compareOp op') r')(ha:PE X a ta)(hb:PE X b tb)(hc:PE X c tc) (hm:lastMarks [op,op'] [b,c]=false:=by with_unfolding_all rfl):PE X (.Compare a [op,op'] [b,c] pos) (za8 r r' ta tb tc):=by
 intro pins s O H Q I h;refine Compare_chain (thn (ha pins s O H _ I h) fun v s1 ⟨x,H1,I1,r1,q1⟩=>chain_link (thn (hb pins s1 O H1 _ I1 q1) fun u s2 ⟨y,H2,I2,r2,q2⟩=> thn (ho pins s2 O H2 x y v u _ I2 r1 r2 q2) fun d s3 ⟨z,H3,I3,r3,k,e,q3⟩=>?_)) hm;subst e;cases r3;refine _aq ?_;cases k with
 | false=>exact ite_ff ⟨.bl false,H3,I3,rfl,q3⟩ | true=>exact ite_tt (chain_last (thn (hc pins s3 O H3 _ I3 q3) fun w' s4 ⟨z',H4,I4,r4,q4⟩=>ho' pins s4 O H4 y z' u w' Q I4 r2 r4 q4))
theorem zdf{op op':CmpOp}{r r':R2}(ho:OpR X (compareOp op) r)(ho':OpR X (compareOp op') r')(ha:PE X a ta)(hb:PE X b tb)(hc:PE X c tc) (hm:lastMarks [op,op'] [b,c]=false:=by with_unfolding_all rfl):PT X (.Compare a [op,op'] [b,c] pos) (zfA (za8 r r' ta tb tc)):=by
 intro pins s O H Q I h;refine isTrue_chain (thn (ha pins s O H _ I h) fun v s1 ⟨x,H1,I1,r1,q1⟩=>test_link (thn (hb pins s1 O H1 _ I1 q1) fun u s2 ⟨y,H2,I2,r2,q2⟩=> thn (ho pins s2 O H2 x y v u _ I2 r1 r2 q2) fun d s3 ⟨z,H3,I3,r3,k,e,q3⟩=>?_)) hm;subst e;cases r3;refine _aq ?_;cases k with
 | false=>
  obtain ⟨k',e',q'⟩:=q3;cases e';exact ite_ff ⟨H3,I3,q'⟩ | true=>
  refine ite_tt (test_last (thn (hc pins s3 O H3 _ I3 q3) fun w' s4 ⟨z',H4,I4,r4,q4⟩=>thn (ho' pins s4 O H4 y z' u w' _ I4 r2 r4 q4) fun d' s5 ⟨z2,H5,I5,r5,k2,e2,q5⟩=>?_));subst e2;cases r5;exact _aq ⟨H5,I5,q5⟩
theorem z89:(sizeLine:Nat)<2 ^ 63:=by rw [_cI];decide
theorem z8T:OpR X (binaryOp .Add) (fun x y H Q=>∃ i j,x=.str i/\y=.str j/\i.length+j.length<=sizeLine/\Q (.str (i++j)) H):=by
 intro pins s O H x y v u Q I rx ry h;obtain ⟨i,j,rfl,rfl,hz,q⟩:=h;obtain ⟨t,rfl⟩:=rx;obtain ⟨t',rfl⟩:=ry;exact add_str (fun t' tk=>⟨.str (i++j),H,I.tok _,⟨_,rfl⟩,q⟩) hz
theorem vals1{x:V}{us:List Value}(r:ym [x] us):∃ u,us=[u]/\yu x u:=by cases r with | cons r1 r2=>cases r2;exact ⟨_,rfl,r1⟩
theorem vals2{x y:V}{us:List Value}(r:ym [x,y] us):∃ u w',us=[u,w']/\yu x u/\yu y w':=by cases r with | cons r1 r2=> cases r2 with | cons r3 r4=>cases r4;exact ⟨_,_,rfl,r1,r3⟩
theorem zaU(hc:X.calm=true):xK X (.builtin "max") (fun xs H Q=>∃ i j,xs=[.int i,.int j]/\Q (.int (if j > i then j else i)) H):=by
 intro pins s O H xs us Q I r h;obtain ⟨i,j,rfl,q⟩:=h;obtain ⟨u,w',rfl,⟨t,rfl⟩,⟨t',rfl⟩⟩:=vals2 r;refine max_two_ints (I.ok.hd hc) fun h' tk k=>⟨_,H,I.kept k,?_,q⟩;by_cases hj:j > i;·rw [_f hj,_f hj];exact ⟨_,rfl⟩
 ·rw [_q hj,_q hj];exact ⟨_,rfl⟩
theorem z9K(hc:X.calm=true):xK X (.builtin "min") (fun xs H Q=>∃ i j,xs=[.int i,.int j]/\Q (.int (if j<i then j else i)) H):=by
 intro pins s O H xs us Q I r h;obtain ⟨i,j,rfl,q⟩:=h;obtain ⟨u,w',rfl,⟨t,rfl⟩,⟨t',rfl⟩⟩:=vals2 r;refine min_two_ints (I.ok.hd hc) fun h' tk k=>⟨_,H,I.kept k,?_,q⟩;by_cases hj:j<i;·rw [_f hj,_f hj];exact ⟨_,rfl⟩
 ·rw [_q hj,_q hj];exact ⟨_,rfl⟩
theorem zb0:xK X (.type "int") (fun xs H Q=>(∃ i,xs=[.int i]/\Q (.int i) H)\/∃ k,xs=[.bl k]/\Q (.int (if k then 1 else 0)) H):=by
 intro pins s O H xs us Q I r h;rcases h with ⟨i,rfl,q⟩ | ⟨k,rfl,q⟩
 ·obtain ⟨u,rfl,t,rfl⟩:=vals1 r;exact call_int_int ⟨.int i,H,I,⟨_,rfl⟩,q⟩
 ·obtain ⟨u,rfl,r1⟩:=vals1 r;cases r1;exact call_int_bool ⟨.int (if k then 1 else 0),H,I.tok _,⟨_,rfl⟩,q⟩
end
structure zkF(h:Heap)(x dx C:Addr)(mA:Str->Option Value):Prop where
 obj:h.get? x=some (W.instObj C dx)
 ns:h.Ns1 dx mA
 ne:dx≠x
theorem zbt{h:Heap}{dx:Addr}{mA:Str->Option Value}(n:h.Ns1 dx mA):∃ od,h.get? dx=some od/\∀ name,W.lookIn name od=some (mA name):=by
 obtain ⟨o,es,ep,ho,hd,hk,_,hm⟩:=n;refine ⟨o,ho,fun name=>?_⟩;have e:=hm name;unfold nsFind findBy at e;rw [<- Array.find?_toList] at e;unfold W.lookIn;rw [hd];dsimp only;split
 ·rename_i y q;rw [q] at e;exact _aC some e
 ·rename_i q;rw [q] at e;have a:es.toList.any (·.refKey)=false:=by
   rw [List.any_eq_false];intro y hy;obtain ⟨z,t,hkey⟩:=hk y (Array.mem_toList_iff.mp hy);simp [DictEntry.refKey,hkey]
  have a':¬ es.toList.any (·.refKey)=true:=by rw [a];exact _N
  rw [_q a'];exact _aC some e
theorem zkF.look{h:Heap}{x dx C:Addr}{mA:Str->Option Value}(I:zkF h x dx C mA):∃ od,W.InstAt h x (W.instObj C dx) C (some od)/\∀ name,W.lookIn name od=some (mA name):= let ⟨od,ho,hl⟩:=zbt I.ns;⟨od,⟨I.obj,rfl,rfl,ho⟩,hl⟩
theorem z9t.some_of{v:V}{o:Option Value}(r:z9t (some v) o):∃ u,o=some u/\yu v u:=by cases o with
 | none=>exact (show False from r).elim | some u=>exact ⟨u,rfl,r⟩
section
variable {P:Program}{w:World}{H H':Hp}{h h':Heap}{a C dx:Addr}{fs fs':List (Str×V)}
theorem zaO(hok:HOk P w H h)(e:H a=some (.ins C dx fs)):∃ mA,zkF h a dx C mA/\(∀ f,z9t (fs.lookup f) (mA f))/\PySem.Within mA (fs.map (·.1))/\fs.length<=1000/\H dx=some (.own a):=by
 obtain ⟨d,z,ne,ob,mA,n,r,q⟩:=(show yj P w H h a (.ins C dx fs) from hok a _ e);exact ⟨mA,⟨ob,n,ne⟩,r,q,z,d⟩
end
structure Cls(K:W.Frag)(C:Addr):Prop where
 pg:W.plainGet K C Str.empty=true
 hd:W.hasDictIn K C=true
 po:W.plainOver K C=true
 sa:W.findIn K (.ref C) "__setattr__"=some (some (.builtin "object.__setattr__"))
theorem Cls.get{K:W.Frag}{C:Addr}(c:Cls K C)(f:Str):W.plainGet K C f=true:=c.pg
section
variable {X:Cx}{pins:List (Addr×Obj)}{O:St}{H:Hp}{s:Shared}{A:Around}{E:Value->Shared->Prop}{Q:Value->Shared->Prop}{c:Value}{b:Bool}
inductive z6E(K:W.Frag)(H:Hp):V->Value->Prop where | non:z6E K H .non (.type "NoneType") | bl (x:Bool):z6E K H (.bl x) (.type "bool") | int (i:Int):z6E K H (.int i) (.type "int") | str (x:Str):z6E K H (.str x) (.type "str") | flt (x:UInt64):z6E K H (.flt x) (.type "float") | lst {a:Addr}{xs:List V}(e:H a=some (.lst xs)):z6E K H (.ref a) (.type "list") | frz {a:Addr}{o:Obj}{xs:List V}(e:H a=some (.frz o (.lst xs))):z6E K H (.ref a) (.type "list") | tup {a:Addr}{xs:List V}(e:H a=some (.tup xs)):z6E K H (.ref a) (.type "tuple") | dK {a:Addr}{kvs:List (Key×V)}(e:H a=some (.dK kvs)):z6E K H (.ref a) (.type "dict") | dT {a:Addr}{kvs:List (List Key×V)}(e:H a=some (.dT kvs)):z6E K H (.ref a) (.type "dict") | ins {a C dx:Addr}{fs:List (Str×V)}(e:H a=some (.ins C dx fs))(cl:Cls K C)(ha:W.findIn K (.ref C) "__class__"=some (some (.builtin "object.__class__"))) (hn:W.specialIn K (.builtin "object.__class__") "__get__"=some (some (.builtin "getset_descriptor.__get__")))(htk:W.takesIn K (.builtin "object.__class__")=some true) (hm:W.mroIn K C (.type "object")=some true):z6E K H (.ref a) (.ref C)
theorem zax {x:V} {u t:Value} (I:Inv X pins O H s) (rx:yu x u) (ty:z6E X.K H x t) (e:W.kitOne X.K t c=some b) (h:∀ tk,Q (.bool b) {s with toks:=tk}): wpAny (model X.prog X.w) A (call (.builtin "isinstance") [u,c]) Q E s:=by cases ty with
 | non=>cases (show u=Value.none from rx);exact _bd W.kitx_none I.kIn True.intro e (fun z=>nomatch z) h | bl y=>cases (show u=Value.bool y from rx);exact _bd W.kitx_bool I.kIn True.intro e (fun z=>nomatch z) h | int i=>obtain ⟨t,q⟩:=(show ∃ t,u=Value.int i t from rx);cases q;exact _bd W.kitx_int I.kIn True.intro e (fun z=>nomatch z) h | str y=>obtain ⟨t,q⟩:=(show ∃ t,u=Value.str y t from rx);cases q;exact _bd W.kitx_str I.kIn True.intro e (fun z=>nomatch z) h | flt y=>obtain ⟨t,q⟩:=(show ∃ t,u=Value.float y t from rx);cases q;exact _bd W.kitx_float I.kIn True.intro e (fun z=>nomatch z) h | @lst a xs ea=>
  cases (show u=Value.ref a from rx);obtain ⟨_,_,n,_,h1⟩:=(show yj X.prog X.w H s.heap a (.lst xs) from I.hok a _ ea);exact _bd W.kitx_list I.kIn ⟨_,h1,rfl⟩ e (fun z=>nomatch z) h | @frz a ob xs ea=>
  cases (show u=Value.ref a from rx);obtain ⟨_,_,_,n,_,h1⟩:=(show yj X.prog X.w H s.heap a (.frz ob (.lst xs)) from I.hok a _ ea);exact _bd W.kitx_list I.kIn ⟨_,h1,rfl⟩ e (fun z=>nomatch z) h | @tup a xs ea=>
  cases (show u=Value.ref a from rx);obtain ⟨_,_,_,p⟩:=(show yj X.prog X.w H s.heap a (.tup xs) from I.hok a _ ea);obtain ⟨o,h1,h2,_⟩:=p;exact _bd W.kitx_tuple I.kIn ⟨o,h1,h2⟩ e (fun z=>nomatch z) h | @dK a kvs ea=>
  cases (show u=Value.ref a from rx);obtain ⟨_,_,vs,_,p⟩:=(show yj X.prog X.w H s.heap a (.dK kvs) from I.hok a _ ea);obtain ⟨o,es,ep,h1,h2,_⟩:=p;exact _bd W.kitx_dict I.kIn ⟨o,h1,h2.1⟩ e (fun z=>nomatch z) h | @dT a kvs ea=>
  cases (show u=Value.ref a from rx);obtain ⟨_,_,xs,_,o,es,ep,h1,h2,_⟩:=(show yj X.prog X.w H s.heap a (.dT kvs) from I.hok a _ ea);exact _bd W.kitx_dict I.kIn ⟨o,h1,h2.1⟩ e (fun z=>nomatch z) h | @ins a C dx fs ea cl ha hn htk hm=>
  cases (show u=Value.ref a from rx);obtain ⟨mA,Oo,_⟩:=zaO I.hok ea;obtain ⟨od,J,_⟩:=Oo.look;exact _bd (W.kitx_own (cl.get _) cl.hd ha hn htk hm) I.kIn J e (fun z=>nomatch z) h
end
structure z09(k:Nat)(A:Around):Prop where
 hd:A.handled=none
 dp:A.depth+3*k+5<recursionLimit
 un:A.units+16*k+200<cLine
 gd:A.guards=some []
theorem z09.mono{j k:Nat}{A:Around}(r:z09 k A)(h:j<=k):z09 j A:=⟨r.hd,by have:=r.dp;omega,by have:=r.un;omega,r.gd⟩
theorem z09.deeper{k:Nat}{A:Around}(r:z09 (k+1) A)(env:Env):z09 k (A.deeper env):= ⟨r.hd,by have:=r.dp;show A.depth+1+3*k+5<_;omega,by have:=r.un;show A.units+3+16*k+200<_;omega,r.gd⟩
theorem z09.depth{k:Nat}{A:Around}(r:z09 k A):A.depth<recursionLimit:=by have:=r.dp;omega
theorem z09.units{k:Nat}{A:Around}(r:z09 k A):A.units+64<cLine:=by have:=r.un;omega
def zkQ:TA:=fun _ H Q=>Q [] H
def zjU(ta:TE)(tr:TA):TA:=fun O H Q=>ta O H fun x H1=>tr O H1 fun xs H2=>Q (x::xs) H2
section
variable {X:Cx}{e:Expr}{es:List Expr}{te:TE}{t:TA}{pos:Pos}
theorem ux:PA X [] zkQ:=fun _ _ _ _ H Q I h=>_cJ ⟨[],H,I,.nil,h⟩
theorem yT(ha:PE X e te)(hr:PA X es t)(hs:starEach (e::es) X.env=(false,eval e X.env)::starEach es X.env:=by rfl):PA X (e::es) (zjU te t):=by
 intro pos pins s O H Q I h;rw [hs];show wpAny _ _ (spliced ((false,eval e X.env)::backTo pos (starEach es X.env))) _ _ s;refine _bE (thn (ha pins s O H _ I h) fun u s1 ⟨x,H1,I1,r1,q1⟩=>?_);exact thn (hr pos pins s1 O H1 _ I1 q1) fun us s2 ⟨xs,H2,I2,r2,q2⟩=>⟨x::xs,H2,I2,.cons r1 r2,q2⟩
def zlz(t:TA):TE:=fun O H Q=>t O H fun xs H1=>xs.length<=sizeLine/\∀ p,H1 p=none->Q (.ref p) (upd H1 p (.tup xs))
def zld(t:TA):TE:=fun O H Q=>t O H fun xs H1=>xs.length<=sizeLine/\∀ p,H1 p=none->Q (.ref p) (upd H1 p (.lst xs))
theorem zdY{x1}(h:PA X es t):PE X (.Tuple es x1 pos) (zlz t):=by
 intro pins s O H Q I hq;refine wpAny_Tuple_spliced (thn (h pos pins s O H _ I hq) fun us s1 ⟨xs,H1,I1,r,z,q⟩=>⟨by rw [<- r.length];exact z,?_⟩);have hf:H1 s1.heap.objs.size=none:=I1.hok.fresh (_g _);refine ⟨.ref s1.heap.objs.size,upd H1 s1.heap.objs.size (.tup xs),I1.laid (t':=s1.toks) (fun b u e=>_d _ e) (_g _) ?_,rfl,q _ hf⟩;exact ⟨z,us,r,⟨_,_h _ rfl,rfl,rfl,_,rfl⟩⟩
theorem zey(h:PA X es t):PE X (.List es pos) (zld t):=by
 intro pins s O H Q I hq;refine wpAny_List_spliced (thn (h pos pins s O H _ I hq) fun us s1 ⟨xs,H1,I1,r,z,q⟩=>⟨by rw [<- r.length];exact z,?_⟩);have hf:H1 s1.heap.objs.size=none:=I1.hok.fresh (_g _);refine ⟨.ref s1.heap.objs.size,upd H1 s1.heap.objs.size (.lst xs),I1.laid (t':=s1.toks) (fun b u e=>_d _ e) (_g _) ?_,rfl,q _ hf⟩;exact ⟨z,us,0,r,_h _ rfl⟩
end
abbrev Sp:=List V->Hp->VK->XK->Prop
abbrev CXT:=List Env->Hp->Shared->XK->Value->Shared->Prop
structure zhz(P:Program)(w:World)(K:W.Frag)(mg:Str->Option Value)(base:Heap)(A:Around)(outer:List Env)(s:Shared)(H:Hp):Prop where
 frames:A.frames=some outer
 mod:Mod K mg base
 bs:∀ b o,base.get? b=some o->s.heap.get? b=some o/\H b=none
 bsz:base.objs.size<=s.heap.objs.size
 funs:s.heap.FunFrames base outer
 frf:∀ b∈frs outer,H b=none
 hok:HOk P w H s.heap
 bare:AllBare s.gens
def CE(outer:List Env)(P:Program)(w:World)(H:Hp)(s:Shared)(Q:VK)(u:Value)(s':Shared):Prop:= ∃ v H',s'.os=s.os/\AllBare s'.gens/\Un (frs outer) [] H H' s.heap s'.heap/\HOk P w H' s'.heap/\yu v u/\Q v H'
def CR(CX:CXT)(outer:List Env)(P:Program)(w:World)(H:Hp)(s:Shared)(Q:VK)(E:XK)(r:Result)(s':Shared):Prop:= match r with
 | .ok (.ret u)=>CE outer P w H s Q u s' | .ok _=>False | .error e=>CX outer H s E e s'
structure z4g(P:Program)(w:World)(K:W.Frag)(mg:Str->Option Value)(base:Heap)(CX:CXT)(k:Nat)(f:Addr)(fd:FuncData)(ps:List Str)(sp:Sp):Prop where
 len:∀ vs H Q E,sp vs H Q E->vs.length=ps.length
 run:∀ (A:Around)(outer:List Env)(s:Shared)(H:Hp)(args:Args)(us:List Value)(vs:List V)(Q:VK)(E:XK),z09 k A->zhz P w K mg base A outer s H->BindsTo s fd args (ps.zip us)->ym vs us->sp vs H Q E-> codeAny (model P w) A (.call (.ref f) args) (CR CX outer P w H s Q E) s
theorem z4g.mono{P:Program}{w:World}{K:W.Frag}{mg:Str->Option Value}{base:Heap}{CX:CXT}{j k:Nat}{f:Addr}{fd:FuncData}{ps:List Str}{sp:Sp}(F:z4g P w K mg base CX j f fd ps sp)(h:j<=k): z4g P w K mg base CX k f fd ps sp:=⟨F.len,fun A outer s H args us vs Q E hr=>F.run A outer s H args us vs Q E (hr.mono h)⟩
theorem z4g.imp{P:Program}{w:World}{K:W.Frag}{mg:Str->Option Value}{base:Heap}{CX:CXT}{k:Nat}{f:Addr}{fd:FuncData}{ps:List Str}{sp sp':Sp}(F:z4g P w K mg base CX k f fd ps sp) (h:∀ vs H Q E,sp' vs H Q E->sp vs H Q E):z4g P w K mg base CX k f fd ps sp':= ⟨fun vs H Q E q=>F.len vs H Q E (h _ _ _ _ q),fun A outer s H args us vs Q E hr he hb hv hs=>F.run A outer s H args us vs Q E hr he hb hv (h _ _ _ _ hs)⟩
section
variable {X:Cx}{pins:List (Addr×Obj)}{O:St}{H:Hp}{s s':Shared}
theorem Inv.env0(I:Inv X pins O H s):zhz X.prog X.w X.K X.mg X.base X.A X.stack s H:= ⟨I.ok.frames,I.ok.mod,I.bs,_U I.ok.bsz I.sz,I.stack,I.stkFree,I.hok,I.bare⟩
theorem Inv.after {Q:VK} {u:Value} (I:Inv X pins O H s) (h:CE X.stack X.prog X.w H s Q u s'):EP X pins O Q u s':=by
 obtain ⟨v,H',os,bare,un,hok,r,q⟩:=h;obtain ⟨hh,g,d,t,os'⟩:=s';obtain rfl:os'=s.os:=os;exact ⟨v,H',I.call (h':=hh) (g':=g) (d':=d) (t':=t) (ch:=[]) un hok bare (fun b z=>absurd z (by simp)),r,q⟩
end
def zfc(sp:Sp)(dvs:List V)(E:XK)(t:TA):TE:=fun O H Q=>t O H fun vs H1=>sp (vs++dvs) H1 Q E
def Binds(K:W.Frag)(fd:FuncData)(ps:List Str)(ds:List Value):Prop:= ∀ (s:Shared)(us:List Value),K.In s.heap->(us++ds).length=ps.length->BindsTo s fd ⟨us,[]⟩ (ps.zip (us++ds))
theorem Binds.all{K:W.Frag}{fd:FuncData}{ps:List Str}(h:∀ us:List Value,us.length=ps.length->bindArgs fd ⟨us,[]⟩=pure (ps.zip us)):Binds K fd ps []:=fun s us _ hl=>by
 rw [_aP] at hl ⊢;exact .of_eq (h us hl)
def Passes(CX:CXT)(X:Cx)(E:XK):Prop:=∀ (pins:List (Addr×Obj))(O:St)(H:Hp)(s:Shared)(e:Value)(s':Shared),Inv X pins O H s->CX X.stack H s E e s'->X.xe e s'
section
variable {X:Cx}{CX:CXT}{k:Nat}{f C:Addr}{fd:FuncData}{ps:List Str}{sp:Sp}{dvs:List V}{ds:List Value}{E:XK}{x m:Str}{p pos apos:Pos}{e o:Expr}{es:List Expr}{ta:TE}{t:TA}
theorem zbZ{pins:List (Addr×Obj)}{O:St}{H:Hp}{s:Shared}{Q:VK}{us:List Value}{vs:List V}(F:z4g X.prog X.w X.K X.mg X.base CX k f fd ps sp)(hr:z09 k X.A)(hb:Binds X.K fd ps ds)(hd:ym dvs ds)(hx:Passes CX X E) (I:Inv X pins O H s)(r:ym vs us)(h:sp (vs++dvs) H Q E):wpAny (model X.prog X.w) X.A (call (.ref f) us) (EP X pins O Q) X.xe s:=by
 have r2:ym (vs++dvs) (us++ds):=r.append hd;have hl:(us++ds).length=ps.length:=by rw [<- r2.length];exact F.len _ _ _ _ h
 refine wpAny_call (_co (F.run X.A X.stack s H ⟨us,[]⟩ (us++ds) (vs++dvs) Q E hr I.env0 (hb s us I.kIn hl) r2 h) fun r s' hq=>?_);cases r with
 | error e=>exact hx pins O H s e s' I hq | ok fl=> cases fl with
  | ret u=>exact I.after hq | next=>exact False.elim hq | brk=>exact False.elim hq | cont=>exact False.elim hq
theorem zfe (F:z4g X.prog X.w X.K X.mg X.base CX k f fd ps sp) (hr:z09 k X.A) (hg:Gl X x) (hm:X.mg x=some (.ref f)) (hk:W.keepIn X.K (.ref f)=true) (hb:Binds X.K fd ps ds) (hd:ym dvs ds) (hx:Passes CX X E) (ha:PA X (e::es) t) (hdb:(x==("__debug__":Str))=false:=by decide) (he:starEach (e::es) X.env=(false,eval e X.env)::starEach es X.env:=by rfl) (hpl:(backTo pos (starEach es X.env)).any (·.1)=false:=by rfl): PE X (.Call (.Name x p) (e::es) [] pos) (zfc sp dvs E t):=by
 intro pins s O H Q I h;refine _ax (z0v I hg hm ?_ hdb);refine W.callWith_K (h₀:=X.base) I.ok.mod.kin hk (thn (ha pos pins s O H _ I h) fun us s1 ⟨vs,H1,I1,r,q⟩=>⟨I1.kIn,?_⟩) he hpl;exact zbZ F hr hb hd hx I1 r q
theorem zc8(F:z4g X.prog X.w X.K X.mg X.base CX k f fd ps sp)(hr:z09 k X.A)(hg:Gl X x)(hm:X.mg x=some (.ref f))(hk:W.keepIn X.K (.ref f)=true)(hb:Binds X.K fd ps ds)(hd:ym dvs ds)(hx:Passes CX X E) (hdb:(x==("__debug__":Str))=false:=by decide):PE X (.Call (.Name x p) [] [] pos) (zfc sp dvs E zkQ):=by
 intro pins s O H Q I h;refine _ax (z0v I hg hm ?_ hdb);exact W.callWith_K0 I.kIn hk (zbZ (us:=[]) F hr hb hd hx I .nil h)
end
structure zr(N P:List Str)(sc:Scope):Prop where
 kind:sc.kind=.function
 co:sc.isCoroutine=false
 gen:sc.isGenerator=false
 nd:N.Nodup
 pre:N.take P.length=P
 par:∀ x∈P,sc.names.lookup x=some .local\/sc.names.lookup x=some .cell
 nofree:∀ y∈sc.names,y.2≠.free
theorem z5V{kindOf:Str->Option NameKind}{x:Str}:∀ {binds:List (Str×Value)}{m:Str->Option Value},(∀ v,(x,v)∉binds)->bindL kindOf binds m x=m x
 | [],_,_=>rfl | (n,v)::r,m,h=>by
  unfold bindL;rw [z5V fun w hw=>h w (_y _ hw)];split
  ·have:x≠n:=by rintro rfl;exact h v _M
   simp [this]
  ·rfl
theorem z6z{kindOf:Str->Option NameKind}{x:Str}:∀ {binds:List (Str×Value)}{m:Str->Option Value},(∀ v,(x,v)∉binds)->bindC kindOf binds m x=m x
 | [],_,_=>rfl | (n,v)::r,m,h=>by
  unfold bindC;rw [z6z fun w hw=>h w (_y _ hw)];split;·rfl
  ·have:x≠n:=by rintro rfl;exact h v _M
   simp [this]
theorem z5o{kindOf:Str->Option NameKind}{x:Str}{v:Value}:∀ {P:List Str}{vs:List Value}{i:Nat}{m:Str->Option Value},P.Nodup->P[i]? = some x->vs[i]? = some v->kindOf x=some .local-> bindL kindOf (P.zip vs) m x=some v
 | [],_,_,_,_,h,_,_=>by simp at h | _::_,[],_,_,_,_,h,_=>by simp at h | p::P,w::vs,0,m,nd,h1,h2,hk=>by
  simp at h1 h2;subst h1;subst h2;show bindL kindOf ((p,w)::P.zip vs) m p=_;unfold bindL;rw [z5V fun v hv=>(_bA.mp nd).1 (_bB hv).1,_f hk];simp | p::P,w::vs,i+1,m,nd,h1,h2,hk=>by
  show bindL kindOf ((p,w)::P.zip vs) m x=_;unfold bindL;exact z5o (i:=i) (_bA.mp nd).2 (by simpa using h1) (by simpa using h2) hk
theorem z6v{kindOf:Str->Option NameKind}{x:Str}{v:Value}:∀ {P:List Str}{vs:List Value}{i:Nat}{m:Str->Option Value},P.Nodup->P[i]? = some x->vs[i]? = some v->kindOf x≠some .local-> bindC kindOf (P.zip vs) m x=some v
 | [],_,_,_,_,h,_,_=>by simp at h | _::_,[],_,_,_,_,h,_=>by simp at h | p::P,w::vs,0,m,nd,h1,h2,hk=>by
  simp at h1 h2;subst h1;subst h2;show bindC kindOf ((p,w)::P.zip vs) m p=_;unfold bindC;rw [z6z fun v hv=>(_bA.mp nd).1 (_bB hv).1,_q hk];simp | p::P,w::vs,i+1,m,nd,h1,h2,hk=>by
  show bindC kindOf ((p,w)::P.zip vs) m x=_;unfold bindC;exact z6v (i:=i) (_bA.mp nd).2 (by simpa using h1) (by simpa using h2) hk
def start(N:List Str)(vs:List V):St:=vs.map some++List.replicate (N.length-vs.length) none
def z25(CX:CXT)(P:Program)(w:World)(K:W.Frag)(mg:Str->Option Value)(base:Heap)(N:List Str)(qual:Str)(scope:Scope)(f:Addr)(cd:Value)(A:Around)(outer:List Env)(s:Shared)(H:Hp)(E:XK):Cx where
 prog:=P;w:=w;K:=K;mg:=mg;base:=base;A:=A.deeper (envOfC qual scope s.heap.objs.size f cd);N:=N;s₀:=s;H₀:=H;env:=envOfC qual scope s.heap.objs.size f cd;outer:=outer;stack:=envOfC qual scope s.heap.objs.size f cd::outer;ex:=[];calm:=A.handled.isNone;fn:=fun _=>true;pn:=[];xe:=fun e s'=>wpAny (model P w) (A.deeper (envOfC qual scope s.heap.objs.size f cd)) (leaving (envOfC qual scope s.heap.objs.size f cd) e) (fun _ s''=>CX outer H s E e s'') (fun e' s''=>CX outer H s E e' s'') s'
theorem z1r{sc:Scope}{n:Nat}{x:Str}(h:sc.names.lookup x=some .cell):∃ c,(cellsFrom n sc.names []).lookup x=some c:=by
 have q:=_c6 sc.names n [] (.inl h);exact _ai.mp q
theorem z5N{CX:CXT}{P:Program}{w:World}{K:W.Frag}{mg:Str->Option Value}{base:Heap}{N ps:List Str}{qual:Str}{scope:Scope}{f:Addr}{cd:Value}{A:Around}{outer:List Env}{s s1:Shared}{H:Hp}{E:XK}{us:List Value}{vs:List V} (S:zr N ps scope)(e0:zhz P w K mg base A outer s H)(hl:vs.length=ps.length)(r:ym vs us) (x:InCallC s s.heap.objs.size (bindL (envOfC qual scope s.heap.objs.size f cd).kindOf (ps.zip us) fun _=>none) (cellsFrom (s.heap.objs.size+1) scope.names []) (bindC (envOfC qual scope s.heap.objs.size f cd).kindOf (ps.zip us) fun _=>none) s1): Inv (z25 CX P w K mg base N qual scope f cd A outer s H E) [] (start N vs) H s1:=by
 have hpl:ps.length<=N.length:=by have:=_aC List.length S.pre;rw [_bY] at this;omega
 obtain ⟨h1,tk,rfl,hk⟩:=x.done;have noA:∀ b:Addr,b∉(z25 CX P w K mg base N qual scope f cd A outer s H E).ex:=fun b z=>absurd (show b∈([]:List Addr) from z) (by simp);refine ⟨⟨e0.mod,S.kind,rfl,rfl,_g _,fun y z c h1 h2=>?_,fun y hy=>?_,fun y c _ h=>?_,fun h=>Option.isNone_iff_eq_none.mp h,Around.frames_deeper e0.frames,.inr ⟨rfl,rfl⟩,fun b z=>absurd z (noA b),e0.bs,e0.bsz,fun b _ _=>noA b,fun b z=>absurd z (noA b),e0.funs,e0.frf⟩, rfl,e0.bare,Un.kept hk,⟨_,x.toInCall.ns,fun i y v h1 h2 h3=>?_⟩,fun y c h=>⟨_,x.cell y c h⟩,e0.hok.fresh (_g _),fun y c h=>?_,fun p hp=>absurd (show p∈([]:List (Addr×Obj)) from hp) (by simp),e0.hok.kept hk,?_⟩;·exact name_of_addr x.apart (_ab h1) (_ab h2)
 ·have hy:scope.names.lookup y=some .cell\/scope.names.lookup y=some .free:=hy;rcases hy with hy | hy;·exact z1r hy
  ·exact absurd rfl (S.nofree _ (_ab hy))
 ·exact _dl (x.above y c (_ab h))
 ·have hi:i<vs.length:=by
   unfold start at h2;by_cases hi:i<vs.length;·exact hi
   ·rw [_T (by simpa using hi)] at h2;rw [_be] at h2;split at h2<;>cases h2
  have ha:vs[i]? = some v:=by
   unfold start at h2;rw [_o (by simpa using hi),_P] at h2;cases e:vs[i]? with
   | none=>rw [e] at h2;cases h2 | some a=>rw [e] at h2;cases h2;rfl
  obtain ⟨u,hu,rv⟩:=r.get ha;have hp:ps[i]? = some y:=by rw [<- S.pre,_bw (by omega)];exact h1
  have ndP:ps.Nodup:=by rw [<- S.pre];exact S.nd.sublist (_cK _ _)
  refine ⟨u,rv,?_⟩;rcases S.par y (_A hp) with k | k;·exact .inl ⟨k,z5o ndP hp hu k⟩
  ·obtain ⟨c,e⟩:=z1r (n:=s.heap.objs.size+1) k;refine .inr ⟨.inl k,c,e,?_⟩;have q:=x.cell y c e;rw [z6v ndP hp hu (by show scope.names.lookup y≠_;rw [k];decide)] at q;exact q
 ·exact e0.hok.fresh (_dl (x.above y c (_ab h)))
 ·unfold start;show _=N.length;rw [_X,_B,_bS];omega
theorem zgS {CX:CXT} {P:Program} {w:World} {K:W.Frag} {mg:Str->Option Value} {base:Heap} {k:Nat} {f:Addr} {name qual:Str} {params:Arguments} {body:List Stmt} {scope:Scope} {dV kV doc pm cdv ct oc:Value} {an od:Option Addr} {osl:Array (Option Value)} {N ps:List Str} {sp:Sp} (lk:K.lookup f=some ⟨oc,od,.func (W.fnOf name qual params body scope dV kV doc pm an cdv ct),osl⟩) (hcd:W.codeIn K cdv qual=true) (S:zr N ps scope) (len:∀ vs H Q E,sp vs H Q E->vs.length=ps.length) (hbody:∀ (A:Around) (outer:List Env) (s:Shared) (H:Hp) (vs:List V) (Q:VK) (E:XK),z09 k (A.deeper (envOfC qual scope s.heap.objs.size f cdv))->sp vs H Q E-> ∃ t,PSs (z25 CX P w K mg base N qual scope f cdv A outer s H E) body t/\t {nx:=fun _ H'=>Q .non H',rt:=Q} (start N vs) H): z4g P w K mg base CX (k+1) f (W.fnOf name qual params body scope dV kV doc pm an cdv ct) ps sp:=by
 refine ⟨len,fun A outer s H args us vs Q E hr e0 hb r hsp=>?_⟩;have hl:=len _ _ _ _ hsp;have KX:K.In s.heap:=e0.mod.kin.keeps fun b o e=>(e0.bs b o e).1;have lim:s.heap.NoLimit:=e0.mod.nolimit.keeps fun b o e=>(e0.bs b o e).1;have hkind:∀ y∈ps.zip us,scope.names.lookup y.1=some .local\/(scope.names.lookup y.1=some .cell/\((cellsFrom (s.heap.objs.size+1) scope.names []).lookup y.1).isSome=true):=fun ⟨n,v⟩ hy=>by
  rcases S.par n (_bB hy).1 with q | q;·exact .inl q
  ·exact .inr ⟨q,_c6 _ _ _ (.inl q)⟩
 refine codeAny_call_function hr.depth (KX _ _ lk) rfl S.co S.gen rfl (W.codeRec_of KX hcd) (hb _ _ _ _ ?_);refine wpAny_newFunctionEnv_cells S.kind hkind fun env he s1 x=>?_;subst he;refine ⟨lim.keeps x.toInCall.keep,codeAny_func ?_⟩;obtain ⟨t,ht,hq⟩:=hbody A outer s H vs Q E (hr.deeper _) hsp;have I:Inv (z25 CX P w K mg base N qual scope f cdv A outer s H E) [] (start N vs) H s1:=z5N S e0 hl r x;refine _t (ht [] s1 (start N vs) H _ I hq) (fun fl s' hs=>?_) fun e s' hs=>hs;have fin:∀ {O':St} {H':Hp} {v:V} {u:Value},Inv (z25 CX P w K mg base N qual scope f cdv A outer s H E) [] O' H' s'->yu v u->Q v H'->CE outer P w H s Q u s':= fun {O' H' v u} J rv q=>⟨v,H',J.os,J.bare,J.base,J.hok,rv,q⟩;cases fl with
 | ret u=>
  obtain ⟨v,O',H',J,rv,q⟩:=hs;exact fin J rv q | next=>
  obtain ⟨O',H',J,q⟩:=hs;exact fin (v:=V.non) (u:=Value.none) J rfl q | brk=>
  obtain ⟨_,_,_,q⟩:=hs;exact False.elim q | cont=>
  obtain ⟨_,_,_,q⟩:=hs;exact False.elim q
section
variable {X:Cx}{x:Str}{p pos:Pos}{e:Expr}{es:List Expr}{t:TA}{id T:String}{r:List V->Hp->VK->Prop}
def tCB(r:List V->Hp->VK->Prop)(t:TA):TE:=fun O H Q=>t O H fun vs H1=>r vs H1 Q
theorem jl (hc:xK X (.builtin id) r) (hg:Gl X x) (hm:X.mg x=none) (hv:bootBuiltins x=some (.builtin id)) (ha:PA X (e::es) t) (hn:x≠"__name__":=by decide) (hdb:(x==("__debug__":Str))=false:=by decide) (he:starEach (e::es) X.env=(false,eval e X.env)::starEach es X.env:=by rfl) (hpl:(backTo pos (starEach es X.env)).any (·.1)=false:=by rfl):PE X (.Call (.Name x p) (e::es) [] pos) (tCB r t):=by
 intro pins s O H Q I h;refine _ax (z2w I hg hm hv ?_ hn hdb);exact PyProof.Rows.callWith_builtin1 (thn (ha pos pins s O H _ I h) fun us s1 ⟨vs,H1,I1,r1,q1⟩=>hc pins s1 O H1 vs us Q I1 r1 q1) he hpl
theorem zbw (hc:xK X (.type T) r) (hg:Gl X x) (hm:X.mg x=none) (hv:bootBuiltins x=some (.type T)) (ha:PA X (e::es) t) (hn:x≠"__name__":=by decide) (hdb:(x==("__debug__":Str))=false:=by decide) (he:starEach (e::es) X.env=(false,eval e X.env)::starEach es X.env:=by rfl) (hpl:(backTo pos (starEach es X.env)).any (·.1)=false:=by rfl):PE X (.Call (.Name x p) (e::es) [] pos) (tCB r t):=by
 intro pins s O H Q I h;refine _ax (z2w I hg hm hv ?_ hn hdb);exact _aA (thn (ha pos pins s O H _ I h) fun us s1 ⟨vs,H1,I1,r1,q1⟩=>hc pins s1 O H1 vs us Q I1 r1 q1) he hpl
end
end L2
namespace HT
section
open PySem.SeqAt
open PySem.AutoSeq1 (wpAny_loadPart')
open PySem.MeetsSeq PySem.MeetsSeq2 PySem.MeetsSeq3
end
section
variable {prog:Program}{w:World}{A:Around}{E:Value->Shared->Prop}{s:Shared}
theorem zfZ {t b:Addr} {vs ws:List Value} {Q:Value->Shared->Prop} (ht:IsTup s.heap t vs.toArray) (hb:IsTup s.heap b ws.toArray) (hv:vs≠[]) (h1:ws=[]->Q (.ref t) s) (h2:ws≠[]->Q (.ref s.heap.objs.size) {s with heap:=s.heap.push {cls:=.type "tuple",data:=.seq (vs++ws).toArray}}) (hsz:vs.length+ws.length<=sizeLine):wpAny (model prog w) A (binaryOp .Add (.ref t) (.ref b)) Q E s:=by
 obtain ⟨⟨cls,dd,data,sl⟩,ho,hc,n,hd⟩:=id ht;obtain ⟨⟨cls2,dd2,data2,sl2⟩,ho2,hc2,n2,hd2⟩:=id hb;simp only at hc hd hc2 hd2;subst hc hd hc2 hd2;have e:vs.toArray++ws.toArray=(vs++ws).toArray:=by simp
 by_cases hw:ws=[]
 ·exact concat_meets ⟨_,ho,rfl⟩ ⟨_,ho2,rfl⟩ _c7 seq_tuple_add _bL _bH (_bx _ _) (tuple_addW1 t b vs.toArray ws.toArray n n2 dd dd2 sl sl2 (by simpa using hv) (by simp [hw])) ⟨ho,ho2,h1 hw⟩
 ·refine concat_meets ⟨_,ho,rfl⟩ ⟨_,ho2,rfl⟩ _c7 seq_tuple_add _bL _bH (_bx _ _) (tuple_addW2 t b vs.toArray ws.toArray n n2 dd dd2 sl sl2 (by simpa using hv) (by simpa using hw) (by rw [_j,_j];exact hsz)) ⟨ho,ho2,?_⟩;rw [e];exact h2 hw
def sIx(n d:Nat):Option Int->Nat
 | none=>d | some v=>if v<0 then (v+(n:Int)).toNat else min v.toNat n
theorem z85(n d:Nat):sIx n d none=d:=rfl
theorem zaH(n d k:Nat):sIx n d (some (k:Int))=min k n:=by
 show (if (k:Int)<0 then ((k:Int)+(n:Int)).toNat else min (k:Int).toNat n)=min k n;rw [_q (by omega),_bo]
theorem zhL(n d:Nat)(hd:d<=n)(o:Option Int):sIx n d o<=n:=by cases o with
 | none=>exact hd | some v=>
  show (if v<0 then (v+(n:Int)).toNat else min v.toNat n)<=n;by_cases hv:v<0;·rw [_f hv];omega
  ·rw [_q hv];exact Nat.min_le_right _ _
theorem z9T(v:Int)(n d:Nat):(if v<0 then max (v+(n:Int)) 0 else min v (n:Int))=((sIx n d (some v):Nat):Int):=by
 show (if v<0 then max (v+(n:Int)) 0 else min v (n:Int))=(((if v<0 then (v+(n:Int)).toNat else min v.toNat n):Nat):Int);by_cases hv:v<0;·simp only [_f hv];omega
 ·simp only [_q hv];omega
theorem z8U(lo hi:Option Int)(n:Nat):Builtin.Slice.sliceAdjust lo hi 1 (n:Int)=(((sIx n 0 lo:Nat):Int),(sIx n n hi:Int)):=by
 have h1:¬ ((1:Int)<0):=by omega
 unfold Builtin.Slice.sliceAdjust;simp only [h1,_ak];refine Prod.ext ?_ ?_;·cases lo with
  | none=>rfl | some v=>exact z9T v n 0
 ·cases hi with
  | none=>rfl | some v=>exact z9T v n n
theorem z9c (i j:Nat):Builtin.Slice.slicePlaces (i:Int) (j:Int) 1=j-i:=by
 unfold Builtin.Slice.slicePlaces;have h1:(1:Int) > 0:=by omega
 simp only [h1,_H,Int.ediv_one];split<;>omega
theorem z3H{v:Value}{o:Option Int}{Q:Option Int->Shared->Prop}(p:IsPart v o)(h:Q o s):wpAny (model prog w) A (Builtin.Slice.slicePartIndex v) Q E s:=by cases p with
 | none=>exact slicePart_none h | int i t=>exact slicePart_int h
theorem qp{sl:Addr}{vl vu:Value}{lo hi:Option Int}{n:Nat}{Q:Int×Int×Nat->Shared->Prop}(hs:s.heap.IsSliceOf sl vl vu .none)(pl:IsPart vl lo)(pu:IsPart vu hi) (h:Q (((sIx n 0 lo:Nat):Int),1,sIx n n hi-sIx n 0 lo) s):wpAny (model prog w) A (Builtin.Slice.sliceApplied (.ref sl) (pure (n:Int))) Q E s:=by
 obtain ⟨os,hos,hcs,hds⟩:=id hs;unfold Builtin.Slice.sliceApplied Builtin.Slice.sliceFields;refine _a (_a (_R hos hds (x:=vl) rfl (_a (_R hos hds (x:=vu) rfl (_a (_R hos hds (x:=.none) rfl (_c ?_)))))));refine _a (slicePart_none ?_);show wpAny _ _ (if ((1:Int)==0)=true then _ else _) _ _ s;rw [_q (by decide)];refine _a (z3H pl (_a (z3H pu (_a (_c ?_)))));show wpAny _ _ (match Builtin.Slice.sliceAdjust lo hi 1 (n:Int) with | (lo,hi)=>pure (lo,(1:Int),Builtin.Slice.slicePlaces lo hi 1)) _ _ s;rw [z8U lo hi n];show wpAny _ _ (pure (((sIx n 0 lo:Nat):Int),(1:Int),Builtin.Slice.slicePlaces ((sIx n 0 lo:Nat):Int) (sIx n n hi:Int) 1)) _ _ s;rw [z9c];exact _c h
theorem zd2(xs:Array Value)(i k:Nat):((List.range k).filterMap fun (m:Nat)=>xs[((i:Int)+(m:Int)*1).toNat]?).toArray=((xs.toList.drop i).take k).toArray:=by
 have e:(fun (m:Nat)=>xs[((i:Int)+(m:Int)*1).toNat]?)=fun m=>xs[i+m]? := by
  funext m;have:((i:Int)+(m:Int)*1).toNat=i+m:=by omega
  rw [this]
 rw [e];have:=pick_run xs i k;rw [List.filterMap_map] at this;have e2:((fun x=>xs[x]?) ∘ fun x=>i+x)=fun m=>xs[i+m]? := rfl;rw [e2] at this;rw [this]
theorem z06 {t sl:Addr} {items:Array Value} {vl vu:Value} {lo hi:Option Int} {Q:Value->Shared->Prop} (ht:IsTup s.heap t items) (hs:s.heap.IsSliceOf sl vl vu .none) (pl:IsPart vl lo) (pu:IsPart vu hi) (hw:¬ (sIx items.size 0 lo=0/\sIx items.size items.size hi=items.size)) (h:Q (.ref s.heap.objs.size) {s with heap:=s.heap.push {cls:=.type "tuple",data:=.seq ((items.toList.drop (sIx items.size 0 lo)).take (sIx items.size items.size hi-sIx items.size 0 lo)).toArray}}) (hsz:items.size<=sizeLine):wpAny (model prog w) A (getItem (.ref t) (.ref sl)) Q E s:=by
 have htake:sizeOk (.seq ((items.toList.drop (sIx items.size 0 lo)).take (sIx items.size items.size hi-sIx items.size 0 lo)).toArray):=by
  show ((items.toList.drop (sIx items.size 0 lo)).take (sIx items.size items.size hi-sIx items.size 0 lo)).toArray.size<=sizeLine;rw [_j,_bY,_c8,_aR];omega
 have hj:sIx items.size items.size hi<=items.size:=zhL _ _ (_g _) hi;obtain ⟨os,hos,hcs,hds⟩:=id hs;have hTs:s.TypeIs (.ref sl) "slice":=⟨os,hos,hcs⟩;unfold getItem;try with_reducible refine _au ?_
 first | refine _a (_c ?_) | skip
 refine _a (wpAny_sequenceKey ht.typeIs (by decide) ?_);refine _a (_G (name:=Str.ofString "__getitem__") ht.typeIs _aa (_I _aa ht.typeIs entry_tuple_getitem ?_ (args_tuple_getitem _ _)));show wpAny _ _ (Builtin.Tuple.tupleItemsOf (.ref t) >>= _) _ _ s;refine _a (tupleItemsOf_ ht ?_);refine _a (wpAny_typeOf hTs ?_);rw [_f (by decide)];refine _a (qp hs pl pu ?_);have hno:¬ ((((sIx items.size 0 lo:Nat):Int)==0&&(1:Int)==1&&(sIx items.size items.size hi-sIx items.size 0 lo)==items.size)=true):=by
  intro q;rw [_E,_E] at q;have q1:((sIx items.size 0 lo:Nat):Int)=0:=eq_of_beq q.1.1;have q2:sIx items.size items.size hi-sIx items.size 0 lo=items.size:=eq_of_beq q.2;exact hw ⟨by omega,by omega⟩
 show wpAny _ _ (if (((sIx items.size 0 lo:Nat):Int)==0&&(1:Int)==1&&(sIx items.size items.size hi-sIx items.size 0 lo)==items.size)=true then _ else _) _ _ s;rw [_q hno,zd2];first
  | exact _a (m:=Builtin.Tuple.tupleExact _) (_L (_c ⟨_,rfl,_c h⟩) htake) | exact _a (m:=Builtin.Tuple.tupleExact _) (_L (_a (_c (_c ⟨_,rfl,_c h⟩))) htake) | exact _a (_a (m:=Builtin.Tuple.tupleExact _) (_L (_c (_c ⟨_,rfl,_c h⟩)) htake)) | exact _a (_a (m:=Builtin.Tuple.tupleExact _) (_L (_c ⟨_,rfl,_c h⟩) htake))
end
end HT
namespace L2
abbrev TO:=St->Hp->(Option Int->Hp->Prop)->Prop
def PO(X:Cx)(e:Option Expr)(t:TO):Prop:= ∀ (pins:List (Addr×Obj))(s:Shared)(O:St)(H:Hp)(Q:Option Int->Hp->Prop),Inv X pins O H s->t O H Q-> wpAny (model X.prog X.w) X.A (evalPart e X.env) (fun u s'=>∃ o H',Inv X pins O H' s'/\IsPart u o/\Q o H') X.xe s
def zgo:TO:=fun _ H Q=>Q none H
def zjM(t:TE):TO:=fun O H Q=>t O H fun x H1=>∃ i,x=.int i/\Q (some i) H1
section
variable {X:Cx}{e:Expr}{te:TE}{lo hi:Option Expr}{tl th:TO}{pos p2:Pos}
theorem zaC:PO X none zgo:=by
 intro pins s O H Q I h;rw [evalPart_none];exact _c ⟨none,H,I,.none,h⟩
theorem zfY(h:PE X e te):PO X (some e) (zjM te):=by
 intro pins s O H Q I hw;rw [evalPart_some];refine thn (h pins s O H _ I hw) fun u s1 ⟨x,H1,I1,r1,q1⟩=>?_;obtain ⟨i,rfl,q⟩:=q1;obtain ⟨t,rfl⟩:=r1;exact ⟨some i,H1,I1,.int i t,q⟩
def SlR(X:Cx)(r:V->Option Int->Option Int->Hp->VK->Prop):Prop:= ∀ (pins:List (Addr×Obj))(s:Shared)(O:St)(H:Hp)(x:V)(v vl vu:Value)(lo hi:Option Int)(sl:Addr)(Q:VK),Inv X pins O H s->yu x v->s.heap.IsSliceOf sl vl vu .none->IsPart vl lo->IsPart vu hi->r x lo hi H Q-> ∃ T id,typeLookup (.type T) "__getitem__"=pure (some (.builtin id))/\s.TypeIs v T/\wpAny (model X.prog X.w) X.A (getItem v (.ref sl)) (EP X pins O Q) X.xe s
theorem SlR.or{r r':V->Option Int->Option Int->Hp->VK->Prop}(h:SlR X r)(h':SlR X r'):SlR X (fun x lo hi H Q=>r x lo hi H Q\/r' x lo hi H Q):=by
 intro pins s O H x v vl vu lo hi sl Q I rx hs pl pu q;rcases q with q | q;·exact h pins s O H x v vl vu lo hi sl Q I rx hs pl pu q
 ·exact h' pins s O H x v vl vu lo hi sl Q I rx hs pl pu q
def tSl(r:V->Option Int->Option Int->Hp->VK->Prop)(te:TE)(tl th:TO):TE:=fun O H Q=>te O H fun x H1=>tl O H1 fun l H2=>th O H2 fun u H3=>r x l u H3 Q
theorem z8f{r:V->Option Int->Option Int->Hp->VK->Prop}(hr:SlR X r)(he:PE X e te)(hl:PO X lo tl)(hu:PO X hi th):PE X (.Subscript e (.Slice lo hi none p2) pos) (tSl r te tl th):=by
 intro pins s O H Q I h;refine Subscript_ (thn (he pins s O H _ I h) fun v s1 ⟨x,H1,I1,r1,q1⟩=>?_);refine wpAny_Slice (thn (hl pins s1 O H1 _ I1 q1) fun vl s2 ⟨l,H2,I2,pl,q2⟩=>thn (hu pins s2 O H2 _ I2 q2) fun vu s3 ⟨u,H3,I3,pu,q3⟩=>?_);rw [evalPart_none];refine _c ?_;have I4:Inv X pins O H3 {s3 with heap:=s3.heap.push {cls:=.type "slice",data:=.fields #[vl,vu,.none]}}:=I3.kept (t':=s3.toks) fun b ob q=>_d _ q;obtain ⟨T,id,hT,ht,hg⟩:=hr pins {s3 with heap:=s3.heap.push {cls:=.type "slice",data:=.fields #[vl,vu,.none]}} O H3 x v vl vu l u s3.heap.objs.size Q I4 r1 (Heap.IsSliceOf.new ..) pl pu q3;show wpAny (model X.prog X.w) X.A (subscriptTail e (.Slice lo hi none p2) v (.ref s3.heap.objs.size)) (EP X pins O Q) X.xe {s3 with heap:=s3.heap.push {cls:=.type "slice",data:=.fields #[vl,vu,.none]}};exact tail_any (ops:=[.ref s3.heap.objs.size,v]) ht hT hg (by with_unfolding_all rfl)
def zdX(xs:List V)(lo hi:Option Int):List V:=(xs.drop (HT.sIx xs.length 0 lo)).take (HT.sIx xs.length xs.length hi-HT.sIx xs.length 0 lo)
theorem z1L(xs:List V)(lo hi:Option Int):(zdX xs lo hi).length<=xs.length:=by
 unfold zdX;rw [_bY,_c8];omega
def zlL(K:W.Frag):V->Option Int->Option Int->Hp->VK->Prop:=fun x lo hi H Q=>∃ a xs,x=.ref a/\SqT K H a xs/\ ¬ (HT.sIx xs.length 0 lo=0/\HT.sIx xs.length xs.length hi=xs.length)/\∀ p,H p=none->Q (.ref p) (upd H p (.tup (zdX xs lo hi)))
theorem zhC:SlR X (zlL X.K):=by
 intro pins s O H x v vl vu lo hi sl Q I rx hs pl pu h;obtain ⟨a,xs,rfl,hx,hw,q⟩:=h;cases rx;obtain ⟨its,r,ht,hz⟩:=I.tuple hx;have hlen:its.toArray.size=xs.length:=by rw [_j];exact r.length.symm
 refine ⟨"tuple",_,_aa.lookup,ht.typeIs,?_⟩;refine HT.z06 ht hs pl pu (by rw [hlen];exact hw) ?_ (by rw [hlen];exact hz);rw [hlen];refine ⟨.ref s.heap.objs.size,_,I.laid (t':=s.toks) (o:=.tup (zdX xs lo hi)) (fun b ob q=>_d _ q) (_g _) ?_,rfl,q _ (I.hok.fresh (_g _))⟩;exact ⟨_U (z1L xs lo hi) hz,_,(r.drop (HT.sIx xs.length 0 lo)).take (HT.sIx xs.length xs.length hi-HT.sIx xs.length 0 lo),zc2.new _ _⟩
def zjO(K:W.Frag):R2:=fun x y H Q=>∃ a b xs ys,x=.ref a/\y=.ref b/\SqT K H a xs/\SqT K H b ys/\xs≠[]/\xs.length+ys.length<=sizeLine/\ (ys=[]->Q (.ref a) H)/\(ys≠[]->∀ p,H p=none->Q (.ref p) (upd H p (.tup (xs++ys))))
theorem ym.nil_iff{xs:List V}{us:List Value}(r:ym xs us):us=[] ↔ xs=[]:=by cases r with
 | nil=>simp | cons _ _=>simp
theorem zfn:OpR X (binaryOp .Add) (zjO X.K):=by
 intro pins s O H x y v u Q I rx ry h;obtain ⟨a,b,xs,ys,rfl,rfl,ha,hb,hx,hz,q1,q2⟩:=h;cases rx;cases ry;obtain ⟨its,r1,p1,_⟩:=I.tuple ha;obtain ⟨its2,r2,p2,_⟩:=I.tuple hb;refine HT.zfZ p1 p2 (fun z=>hx (r1.nil_iff.mp z)) (fun z=>⟨.ref a,H,I,rfl,q1 (r2.nil_iff.mp z)⟩) (fun z=>?_) (by rw [<- r1.length,<- r2.length];exact hz);refine ⟨.ref s.heap.objs.size,_,I.laid (t':=s.toks) (o:=.tup (xs++ys)) (fun b ob q=>_d _ q) (_g _) ?_,rfl,q2 (fun w=>z (r2.nil_iff.mpr w)) _ (I.hok.fresh (_g _))⟩;exact ⟨by rw [_X];exact hz,_,r1.append r2,zc2.new _ _⟩
end
def ixN(n:Nat)(i:Int):Option Nat:=if 0<=i then (if i<n then some i.toNat else none) else if -(n:Int)<=i then some (i+n).toNat else none
def atI{α:Type}(xs:List α)(i:Int):Option α:=(ixN xs.length i).bind fun j=>xs[j]?
theorem zak{n:Nat}{i:Int}{j:Nat}(h:ixN n i=some j):seqIndex? i n=some j/\j<n/\-(n:Int)<=i/\i<n:=by
 unfold ixN at h;by_cases h0:0<=i
 ·rw [_f h0] at h;by_cases h1:i<n
  ·rw [_f h1] at h;have e:i.toNat=j:=_K h;exact ⟨by rw [seqIndex_of h0 h1,e],by omega,by omega,h1⟩
  ·rw [_q h1] at h;cases h
 ·rw [_q h0] at h;by_cases h1:-(n:Int)<=i
  ·rw [_f h1] at h;have e:(i+n).toNat=j:=_K h;exact ⟨by rw [seqIndex_neg (by omega) h1,e],by omega,h1,by omega⟩
  ·rw [_q h1] at h;cases h
theorem za0{α:Type}{xs:List α}{i:Int}{v:α}(h:atI xs i=some v):∃ j,seqIndex? i xs.length=some j/\xs[j]? = some v/\j<xs.length/\-(xs.length:Int)<=i/\i<xs.length:=by
 unfold atI at h;cases e:ixN xs.length i with
 | none=>rw [e] at h;cases h | some j=>
  rw [e] at h;obtain ⟨h1,h2,h3,h4⟩:=zak e;exact ⟨j,h1,h,h2,h3,h4⟩
def z7m(b:Expr):Prop:=∀ o i,subscripted b false o i=operate [o,i] (getItem o i)
def IxR(X:Cx)(r:R2):Prop:= ∀ (value slice:Expr)(pins:List (Addr×Obj))(s:Shared)(O:St)(H:Hp)(x y:V)(v u:Value)(Q:VK),Inv X pins O H s->yu x v->yu y u->r x y H Q-> subscripted slice false v u=operate [v,u] (getItem v u)->wpAny (model X.prog X.w) X.A (subscriptTail value slice v u) (EP X pins O Q) X.xe s
def MtR (X:Cx) (id:String) (r:V->List V->Hp->VK->Prop):Prop:= ∀ (pins:List (Addr×Obj)) (s:Shared) (O:St) (H:Hp) (x:V) (xs:List V) (v:Value) (us:List Value) (Q:VK),Inv X pins O H s->yu x v->ym xs us->r x xs H Q-> wpAny (model X.prog X.w) X.A (call (.builtin id) (v::us)) (EP X pins O Q) X.xe s
section
variable {X:Cx}{a b:Expr}{ta tb:TE}{pos:Pos}
theorem IxR.or{r r':R2}(h:IxR X r)(h':IxR X r'):IxR X (fun x y H Q=>r x y H Q\/r' x y H Q):=by
 intro value slice pins s O H x y v u Q I rx ry q hs;rcases q with q | q;·exact h value slice pins s O H x y v u Q I rx ry q hs
 ·exact h' value slice pins s O H x y v u Q I rx ry q hs
theorem zhJ{r:R2}(hr:IxR X r)(ha:PE X a ta)(hb:PE X b tb)(hs:z7m b):PE X (.Subscript a b pos) (tOp r ta tb):=by
 intro pins s O H Q I h;exact Subscript_ (zkA ha hb I h fun v u s2 x y H2 I2 rx ry q=>hr a b pins s2 O H2 x y v u Q I2 rx ry q (hs _ _))
def zlI(K:W.Frag):R2:=fun x y H Q=>∃ p xs i v,x=.ref p/\y=.int i/\SqL K H p xs/\atI xs i=some v/\Q v H
def zl9(K:W.Frag):R2:=fun x y H Q=>∃ p xs i v,x=.ref p/\y=.int i/\SqT K H p xs/\atI xs i=some v/\Q v H
theorem zfv:IxR X (zlI X.K):=by
 intro value slice pins s O H x y v u Q I rx ry h hs;obtain ⟨p,xs,i,z,rfl,rfl,hq,he,q⟩:=h;cases rx;obtain ⟨t,rfl⟩:=ry;obtain ⟨its,r,pl,hz⟩:=I.list hq;obtain ⟨j,h1,h2,h3,h4,h5⟩:=za0 he;obtain ⟨w,ew,rw'⟩:=r.get h2;have hl:=r.length;have hn:=z89;have fin:EP X pins O Q w s:=⟨z,H,I,rw',q⟩;by_cases h0:0<=i
 ·have hj:i.toNat=j:=by
   rw [seqIndex_of h0 h5] at h1;exact _K h1
  exact item_listR pl.isList h0 (by omega) (by rw [hj];simpa using ew) fin hs
 ·have hj:(i+(its.toArray.size:Int)).toNat=j:=by
   rw [seqIndex_neg (by omega) h4] at h1;rw [_j,<- hl];exact _K h1
  exact _bM (x:=w) pl.isList.typeIs _cL.lookup (wpAny_getItem_list_neg (Q:=fun r s'=>r=w/\EP X pins O Q r s') pl.isList (by omega) (by rw [_j]<;>omega) (by omega) (by rw [hj];simpa using ew) ⟨rfl,fin⟩) hs
theorem zi7:IxR X (zl9 X.K):=by
 intro value slice pins s O H x y v u Q I rx ry h hs;obtain ⟨p,xs,i,z,rfl,rfl,hq,he,q⟩:=h;cases rx;obtain ⟨t,rfl⟩:=ry;obtain ⟨its,r,pl,hz⟩:=I.tuple hq;obtain ⟨j,h1,h2,h3,h4,h5⟩:=za0 he;obtain ⟨w,ew,rw'⟩:=r.get h2;have hl:=r.length;have hn:=z89;have fin:EP X pins O Q w s:=⟨z,H,I,rw',q⟩;exact _bM (x:=w) pl.typeIs slot_tuple_getitem.lookup (getItem_tuple (j:=j) (Q:=fun r s'=>r=w/\EP X pins O Q r s') pl (by omega) (by omega) (by rw [_j,<- hl];exact h1) (by simpa using ew) ⟨rfl,fin⟩) hs
theorem z8R (its:List Value) (n j:Nat) (u:Value):Obj.mapSeq (·.setIfInBounds j u) {cls:=.type "list",data:=.seq its.toArray n}={cls:=.type "list",data:=.seq (its.set j u).toArray n}:=by simp [Obj.mapSeq]
theorem Inv.lst{pins:List (Addr×Obj)}{O:St}{H:Hp}{s:Shared}{p:Addr}{xs:List V}(I:Inv X pins O H s)(h:H p=some (.lst xs)): ∃ (its:List Value)(n:Nat),ym xs its/\s.heap.get? p=some {cls:=.type "list",data:=.seq its.toArray n}/\xs.length<=sizeLine:=by
 obtain ⟨z,its,n,r,e⟩:=I.hok p _ h;exact ⟨its,n,r,e,z⟩
theorem Inv.lstUpd {pins:List (Addr×Obj)} {O:St} {H:Hp} {s:Shared} {p:Addr} {xs ys:List V} {its its':List Value} {n n':Nat} {f:Obj->Obj} (I:Inv X pins O H s) (h:H p=some (.lst xs)) (ho:s.heap.get? p=some {cls:=.type "list",data:=.seq its.toArray n}) (hf:f {cls:=.type "list",data:=.seq its.toArray n}={cls:=.type "list",data:=.seq its'.toArray n'}) (r:ym ys its') (hz:ys.length<=sizeLine) (t:Nat): Inv X pins O (upd H p (.lst ys)) {s with heap:=s.heap.update p f,toks:=t}:=by
 have e:(s.heap.update p f).get? p=some {cls:=.type "list",data:=.seq its'.toArray n'}:=by rw [_bm f ho (by rw [hf]<;>rfl),hf]
 refine I.write (x:=p) (e:=p) (by rw [h];trivial) (.inl rfl) (fun b u hb q=>(Heap.get?_update_other _ _ (_a5 hb)).trans q) ⟨_,e⟩ ?_;exact ⟨hz,its',n',r,e⟩
def zjA:V->V->V->Hp->(Hp->Prop)->Prop:=fun o i v H Q=>∃ p xs k j,o=.ref p/\i=.int k/\H p=some (.lst xs)/\ixN xs.length k=some j/\Q (upd H p (.lst (xs.set j v)))
theorem set_list:zl2 X zjA:=by
 intro pins s O H o i v ov iv u Q I ro ri rv h;obtain ⟨p,xs,k,j,rfl,rfl,hp,hj,q⟩:=h;cases ro;obtain ⟨t,rfl⟩:=ri;obtain ⟨its,n,r,ho,hz⟩:=I.lst hp;obtain ⟨h1,h2,h3,h4⟩:=zak hj;have hl:=r.length;have hn:=z89;have I':Inv X pins O (upd H p (.lst (xs.set j v))) {s with heap:=s.heap.update p (Obj.mapSeq (·.setIfInBounds j u))}:= I.lstUpd hp ho (z8R its n j u) (r.set rv j) (by rw [_bC];exact hz) s.toks;by_cases h0:0<=k
 ·have hk:k.toNat=j:=by
   rw [seqIndex_of h0 h4] at h1;exact _K h1
  exact W.ki_setAt ho h0 (by omega) (by rw [_j,<- hl];exact h4) (by rw [hk];exact ⟨_,I',q⟩)
 ·have hk:(k+(its.toArray.size:Int)).toNat=j:=by
   rw [seqIndex_neg (by omega) h3] at h1;rw [_j,<- hl];exact _K h1
  exact W.ki_setBack ho (by omega) (by rw [_j,<- hl];exact h3) (by omega) (by rw [hk];exact ⟨_,I',q⟩)
theorem z60(lo hi:Option Int)(n:Nat):(sliceBounds lo hi none n).1=((HT.sIx n 0 lo:Nat):Int)/\(sliceBounds lo hi none n).2.1=(HT.sIx n n hi:Int)/\(sliceBounds lo hi none n).2.2=1:=by
 refine ⟨?_,?_,rfl⟩;·cases lo with
  | none=>simp [sliceBounds,HT.sIx] | some i=>
   simp only [sliceBounds,HT.sIx,_c9,show (1:Int) > 0 by decide,_H];by_cases h:i<0;·simp only [h,_H]<;>omega
   ·simp only [h,_ak]<;>omega
 ·cases hi with
  | none=>simp [sliceBounds,HT.sIx] | some i=>
   simp only [sliceBounds,HT.sIx,_c9,show (1:Int) > 0 by decide,_H];by_cases h:i<0;·simp only [h,_H]<;>omega
   ·simp only [h,_ak]<;>omega
theorem z40(its:List Value)(lo hi:Option Int):slicePick its.toArray lo hi none=((its.drop (HT.sIx its.length 0 lo)).take (HT.sIx its.length its.length hi-HT.sIx its.length 0 lo)).toArray:=by
 obtain ⟨h1,h2,h3⟩:=z60 lo hi its.toArray.size;unfold slicePick;rw [h1,h2,h3];simp only [sliceRange_one,pick_run,_j]<;>rfl
def zlr(K:W.Frag):V->Option Int->Option Int->Hp->VK->Prop:=fun x lo hi H Q=>∃ a xs,x=.ref a/\SqL K H a xs/\∀ p,H p=none->Q (.ref p) (upd H p (.lst (zdX xs lo hi)))
theorem zeW:SlR X (zlr X.K):=by
 intro pins s O H x v vl vu lo hi sl Q I rx hs pl pu h;obtain ⟨a,xs,rfl,hx,q⟩:=h;cases rx;obtain ⟨its,r,ht,hz⟩:=I.list hx;have hlen:=r.length;refine ⟨"list",_,_cL.lookup,ht.isList.typeIs,?_⟩;refine wpAny_getItem_list_slice ht.isList hs pl pu .none (by simp) ?_ (by rw [_j]<;>omega);rw [z40,<- hlen];refine ⟨.ref s.heap.objs.size,_,I.laid (t':=s.toks) (o:=.lst (zdX xs lo hi)) (fun b ob q=>_d _ q) (_g _) ?_,rfl,q _ (I.hok.fresh (_g _))⟩;exact ⟨_U (z1L xs lo hi) hz,_,0,(r.drop (HT.sIx xs.length 0 lo)).take (HT.sIx xs.length xs.length hi-HT.sIx xs.length 0 lo),_h _ rfl⟩
def z37:V->Bool
 | .non=>true | .bl _=>true | .int _=>true | .str _=>true | _=>false
def eqV:V->V->Bool
 | .non,.non=>true | .bl a,.bl b=>a==b | .bl a,.int b=>(if a then 1 else 0)==b | .int a,.bl b=>a==(if b then 1 else 0) | .int a,.int b=>a==b | .str a,.str b=>a==b | _,_=>false
theorem zhH{A:Around}{s:Shared}{y x:V}{u v:Value}(ry:yu y u)(rx:yu x v)(fy:z37 y=true)(fx:z37 x=true):SeqAt.EqAt A s u v (eqV y x):=by cases y with
 | non=>
  cases ry;cases x with
  | non=>cases rx;exact SeqAt.EqAt.same _ | bl b=>cases rx;exact SeqAt.EqAt.none_bool b | int b=>obtain ⟨t,rfl⟩:=rx;exact SeqAt.EqAt.none_int b t | str b=>obtain ⟨t,rfl⟩:=rx;exact SeqAt.EqAt.none_str b t | _=>exact absurd (show false=true from fx) _N
 | bl a=>
  cases ry;cases x with
  | non=>cases rx;exact SeqAt.EqAt.bool_none a | bl b=>cases rx;exact SeqAt.EqAt.bool_bool a b | int b=>obtain ⟨t,rfl⟩:=rx;exact SeqAt.EqAt.bool_int a b t | str b=>obtain ⟨t,rfl⟩:=rx;exact SeqAt.EqAt.bool_str a b t | _=>exact absurd (show false=true from fx) _N
 | int a=>
  obtain ⟨t',rfl⟩:=ry;cases x with
  | non=>cases rx;exact SeqAt.EqAt.int_none a t' | bl b=>cases rx;exact SeqAt.EqAt.int_bool a t' b | int b=>obtain ⟨t,rfl⟩:=rx;exact SeqAt.EqAt.int_int a t' b t | str b=>obtain ⟨t,rfl⟩:=rx;exact SeqAt.EqAt.int_str a t' b t | _=>exact absurd (show false=true from fx) _N
 | str a=>
  obtain ⟨t',rfl⟩:=ry;cases x with
  | non=>cases rx;exact SeqAt.EqAt.str_none a t' | bl b=>cases rx;exact SeqAt.EqAt.str_bool a t' b | int b=>obtain ⟨t,rfl⟩:=rx;exact SeqAt.EqAt.str_int a t' b t | str b=>obtain ⟨t,rfl⟩:=rx;exact SeqAt.EqAt.str_str a t' b t | _=>exact absurd (show false=true from fx) _N
 | _=>exact absurd (show false=true from fy) _N
def eqU(x:V)(u:Value):Bool:=match u with
 | .none=>eqV .non x | .bool b=>eqV (.bl b) x | .int i _=>eqV (.int i) x | .str z _=>eqV (.str z) x | _=>false
theorem ze2{x y:V}{u:Value}(r:yu y u)(f:z37 y=true):eqU x u=eqV y x:=by cases y with
 | non=>cases r;rfl | bl b=>cases r;rfl | int i=>obtain ⟨t,rfl⟩:=r;rfl | str z=>obtain ⟨t,rfl⟩:=r;rfl | _=>exact absurd (show false=true from f) _N
theorem z7j{x:V}:∀ {xs:List V}{us:List Value},ym xs us->xs.all z37=true->us.any (eqU x)=xs.any fun y=>eqV y x
 | _,_,.nil,_=>rfl | y::xs,u::us,.cons r t,f=>by
  rw [List.all_cons,_E] at f;rw [_by,_by,ze2 r f.1,z7j t f.2]
theorem z41{A:Around}{s:Shared}{x:V}{v:Value}(rx:yu x v)(fx:z37 x=true):∀ {xs:List V}{us:List Value},ym xs us->xs.all z37=true->∀ u∈us,SeqAt.EqAt A s u v (eqU x u)
 | _,_,.nil,_=>fun u hu=>by cases hu | y::xs,u::us,.cons r t,f=>fun u' hu=>by
  rw [List.all_cons,_E] at f;rcases _z.mp hu with rfl | hu;·rw [ze2 r f.1];exact zhH r rx f.1 fx
  ·exact z41 rx fx t f.2 u' hu
def inV(x:V)(xs:List V):Bool:=xs.any fun y=>eqV y x
def rIn(K:W.Frag)(neg:Bool):R2:=fun x y H Q=>∃ p xs,y=.ref p/\(SqL K H p xs\/SqT K H p xs)/\z37 x=true/\xs.all z37=true/\Q (.bl (if neg then !inV x xs else inV x xs)) H
theorem zbC:OpR X (compareOp .In) (rIn X.K false):=by
 intro pins s O H x y v u Q I rx ry h;obtain ⟨p,xs,rfl,hq,fx,fs,q⟩:=h;cases ry;rcases hq with hq | hq
 ·obtain ⟨its,r,pl,hz⟩:=I.list hq;refine SeqAt.in_listAt (eqU x) pl.isList (fun w hw=>z41 rx fx r fs w (by simpa using hw)) ⟨.bl _,H,I,rfl,?_⟩;rw [show its.toArray.any (eqU x)=its.any (eqU x) by simp,z7j r fs];exact q
 ·obtain ⟨its,r,pl,hz⟩:=I.tuple hq;refine SeqAt.in_tupleAt (eqU x) pl (fun w hw=>z41 rx fx r fs w (by simpa using hw)) ⟨.bl _,H,I,rfl,?_⟩;rw [show its.toArray.any (eqU x)=its.any (eqU x) by simp,z7j r fs];exact q
theorem z5C:xK X (.builtin "len") (fun xs H Q=>∃ p ys,xs=[.ref p]/\(SqL X.K H p ys\/SqT X.K H p ys)/\Q (.int ys.length) H):=by
 intro pins s O H xs us Q I r h;obtain ⟨p,ys,rfl,hq,q⟩:=h;obtain ⟨u,rfl,rx⟩:=vals1 r;cases rx;have hn:=z89;rcases hq with hq | hq
 ·obtain ⟨its,r',pl,hz⟩:=I.list hq;have hlen:=r'.length;exact Calls.call_len_list pl.isList (by simp only [_j]<;>omega) ⟨.int ys.length,H,I.tok _,⟨s.toks+1,by rw [_j,hlen]⟩,q⟩
 ·obtain ⟨its,r',pl,hz⟩:=I.tuple hq;have hlen:=r'.length;exact len_tuple pl (by simp only [_j]<;>omega) ⟨.int ys.length,H,I.tok _,⟨s.toks+1,by rw [_j,hlen]⟩,q⟩
theorem z4L:xK X (.type "tuple") (fun xs H Q=>∃ p ys,xs=[.ref p]/\((SqL X.K H p ys/\∀ l,H l=none->Q (.ref l) (upd H l (.tup ys)))\/(SqT X.K H p ys/\Q (.ref p) H))):=by
 intro pins s O H xs us Q I r h;obtain ⟨p,ys,rfl,h⟩:=h;obtain ⟨u,rfl,rx⟩:=vals1 r;cases rx;rcases h with ⟨hq,q⟩ | ⟨hq,q⟩
 ·obtain ⟨its,r',pl,hz⟩:=I.list hq;have hlen:=r'.length;refine call_tuple_list pl.isList (fun h' kp=>?_) (by simp only [_j]<;>omega);have I1:Inv X pins O H {s with heap:=h'}:=I.kept (t':=s.toks) kp;have I2:Inv X pins O (upd H h'.objs.size (.tup ys)) {s with heap:=h'.push {cls:=.type "tuple",data:=.seq its.toArray}}:= I1.laid (t':=s.toks) (fun b o e=>_d _ e) (_g _) (show yj X.prog X.w _ _ _ (.tup ys) from ⟨hz,its,r',zc2.new _ _⟩);exact ⟨.ref h'.objs.size,_,I2,rfl,q _ (I1.hok.fresh (_g _))⟩
 ·obtain ⟨its,r',pl,hz⟩:=I.tuple hq;exact call_tuple_same pl ⟨.ref p,H,I,rfl,q⟩
def tyV(K:W.Frag)(T:String)(x:V)(H:Hp):Prop:=match x with
 | .str _=>T="str" | .int _=>T="int" | .ref p=>(T="list"/\∃ xs,SqL K H p xs)\/(T="tuple"/\∃ o,K.lookup p=some o/\o.cls=.type "tuple"/\o.dict=none)\/ (T="dict"/\((∃ kvs,H p=some (.dK kvs))\/∃ kvs,H p=some (.dT kvs)))\/(T="set"/\∃ S n,H p=some (.set S n)) | _=>False
theorem zhs{pins:List (Addr×Obj)}{O:St}{H:Hp}{s:Shared}{T:String}{x:V}{v:Value}(I:Inv X pins O H s)(r:yu x v)(ty:tyV X.K T x H): s.TypeIs v T/\∀ a,v=.ref a->∃ ob,s.heap.get? a=some ob/\ob.dict=none:=by cases x with
 | str z=>
  obtain ⟨t,rfl⟩:=r;cases (show T="str" from ty);exact ⟨typeIs_str s z t,fun _ e=>nomatch e⟩ | int i=>
  obtain ⟨t,rfl⟩:=r;cases (show T="int" from ty);exact ⟨typeIs_int s i t,fun _ e=>nomatch e⟩ | ref p=>
  cases r;rcases ty with ⟨rfl,xs,hq⟩ | ⟨rfl,o,hk,hc,hd⟩ | ⟨rfl,hk⟩ | ⟨rfl,S,n,hk⟩
  ·obtain ⟨its,_,pl,_⟩:=I.list hq;refine ⟨pl.isList.typeIs,fun a e=>?_⟩;cases e;obtain ⟨o,n,e,c,hd,_⟩:=pl;exact ⟨o,e,hd⟩
  ·refine ⟨⟨o,I.kIn p o hk,hc⟩,fun a e=>?_⟩;cases e;exact ⟨o,I.kIn _ o hk,hd⟩
  ·have z:∃ o,s.heap.get? p=some o/\o.ExactDict:=by
    rcases hk with ⟨kvs,hk⟩ | ⟨kvs,hk⟩
    ·obtain ⟨_,_,_,_,o,_,_,e,ex,_⟩:=I.hok p _ hk;exact ⟨o,e,ex⟩
    ·obtain ⟨_,_,_,_,o,_,_,e,ex,_⟩:=I.hok p _ hk;exact ⟨o,e,ex⟩
   obtain ⟨o,e,ex⟩:=z;refine ⟨⟨o,e,ex.1⟩,fun a e2=>?_⟩;cases e2;exact ⟨o,e,ex.2.1⟩
  ·obtain ⟨o,_,_,_,e,ex,_⟩:=I.hok p _ hk;refine ⟨⟨o,e,ex.1⟩,fun a e2=>?_⟩;cases e2;exact ⟨o,e,ex.2.1⟩ | _=>exact False.elim ty
def tBM(K:W.Frag)(T:String)(r:V->List V->Hp->VK->Prop)(to:TE)(t:TA):TE:=fun O H Q=>to O H fun x H1=>tyV K T x H1/\t O H1 fun xs H2=>r x xs H2 Q
variable {o e:Expr}{es:List Expr}{to:TE}{t:TA}{name:Str}{apos cpos:Pos}{T id:String}{r:V->List V->Hp->VK->Prop}
theorem zdq (pa:PlainAttrs T) (slot:Slot T name id) (hty:typeOf (.builtin id)=pure (.type "method_descriptor")) (hm:MtR X id r) (ho:PE X o to) (ha:PA X (e::es) t) (hbase:attributeBase o name X.env (eval o X.env)=eval o X.env:=by rfl) (hfew:((backTo cpos (starEach (e::es) X.env)).all (fun x=>!x.1)&&(backToKw cpos (keywordEach [] X.env)).all (fun x=>x.1.isSome) && decide ((e::es).length+([]:List Keyword).length+(if ([]:List Keyword).isEmpty then 0 else 1)<30))=true:=by rfl) (hline:(apos.endLine==cpos.line)=true:=by rfl) (hs:starEach (e::es) X.env=(false,eval e X.env)::starEach es X.env:=by rfl) (hplain:(backTo cpos (starEach es X.env)).any (·.1)=false:=by rfl): PE X (.Call (.Attribute o name apos) (e::es) [] cpos) (tBM X.K T r to t):=by
 intro pins s O H Q I h;refine _bN hbase hfew hline rfl (thn (ho pins s O H _ I h) fun v s1 ⟨x,H1,I1,r1,ty,q1⟩=>?_);obtain ⟨h1,h2⟩:=zhs I1 r1 ty;refine ⟨T,id,pa,slot,hty,h1,h2,?_⟩;have hA:=ha cpos pins s1 O H1 _ I1 q1;rw [hs] at hA ⊢;refine _aS (by show (false||(backTo cpos (starEach es X.env)).any (·.1))=false;rw [hplain]<;>rfl) (_a6 ?_);exact thn hA fun us s2 ⟨vs,H2,I2,r2,q2⟩=>hm pins s2 O H2 x vs v us Q I2 r1 r2 q2
end
def MtM (X:Cx) (id:String) (r:V->List V->Hp->VK->Prop):Prop:= ∀ (pins:List (Addr×Obj)) (s:Shared) (O:St) (H:Hp) (x:V) (xs:List V) (v:Value) (us:List Value) (Q:VK),Inv X pins O H s->yu x v->ym xs us->r x xs H Q-> wpAny (model X.prog X.w) X.A (call (.builtin id) (v::us)) (EP X pins O Q) X.xe s
theorem ym.one:∀ {x:V}{us:List Value},ym [x] us->∃ u,us=[u]/\yu x u | _,_,.cons r .nil=>⟨_,rfl,r⟩
theorem ym.rep{xs:List V}{us:List Value}(h:ym xs us):∀ k:Nat,ym (List.replicate k xs).flatten (List.replicate k us).flatten
 | 0=>.nil | k+1=>by
  rw [_ao,_ao,_a7,_a7];exact ym.append h (ym.rep h k)
theorem foldl_rep(its:List Value):∀ (k:Nat)(acc:List Value), List.foldl (fun x1 x2=>x1++x2) acc.toArray (List.replicate k its.toArray)=(acc++(List.replicate k its).flatten).toArray
 | 0,acc=>by simp | k+1,acc=>by
  have e:acc.toArray++its.toArray=(acc++its).toArray:=by simp
  have e2:(acc++its)++(List.replicate k its).flatten=acc++(List.replicate (k+1) its).flatten:=by rw [_ao,_a7,_a8]
  rw [<- e2,<- foldl_rep its k (acc++its),<- e,_ao,_a2]
section
variable {X:Cx}{pins:List (Addr×Obj)}{O:St}{H:Hp}{s:Shared}{l b:Addr}{xs ys zs:List V}
theorem Inv.lset {its its':List Value} {n:Nat} {f:Array Value->Array Value} {t':Nat} (I:Inv X pins O H s) (hH:H l=some (.lst xs)) (e:s.heap.get? l=some {cls:=.type "list",data:=.seq its.toArray n}) (hf:f its.toArray=its'.toArray) (hv:ym ys its') (hz:ys.length<=sizeLine): Inv X pins O (upd H l (.lst ys)) {s with heap:=s.heap.update l (Obj.mapSeq f),toks:=t'}:=by
 have q:=PySem.IsL.update e f;rw [hf] at q;refine I.write (x:=l) (e:=l) (by rw [hH];exact trivial) (.inl rfl) (fun b' u hb hu=>(Heap.get?_update_other s.heap (Obj.mapSeq f) (_a5 hb)).trans hu) ⟨_,q⟩ ?_;exact ⟨hz,its',_,hv,q⟩
theorem Inv.lnew {its:List Value} {t':Nat} (I:Inv X pins O H s) (hv:ym ys its) (hz:ys.length<=sizeLine): Inv X pins O (upd H s.heap.objs.size (.lst ys)) {s with heap:=s.heap.push {cls:=.type "list",data:=.seq its.toArray},toks:=t'}:= I.laid (fun _ _ q=>_d _ q) (_g _) ⟨hz,its,0,hv,_h _ rfl⟩
theorem Inv.fresh(I:Inv X pins O H s):H s.heap.objs.size=none:=I.hok.fresh (_g _)
theorem Inv.lstM(I:Inv X pins O H s)(hH:H l=some (.lst xs)):xs.length<=sizeLine/\∃ (its:List Value)(n:Nat),ym xs its/\xs.length=its.length/\s.heap.get? l=some {cls:=.type "list",data:=.seq its.toArray n}:=by
 obtain ⟨z,its,n,r,e⟩:=I.hok l _ hH;exact ⟨z,its,n,r,r.length,e⟩
theorem zdm{n:Nat}(h:n<=sizeLine):Builtin.List.listTooLong n=false:=by
 unfold Builtin.List.listTooLong;exact _a0 (by omega)
end
section
variable {X:Cx}
def zfT:V->List V->Hp->VK->Prop:=fun x vs H Q=>∃ l xs y,x=.ref l/\vs=[y]/\H l=some (.lst xs)/\xs.length<sizeLine/\Q .non (upd H l (.lst (xs++[y])))
theorem zaY:MtM X "list.append" zfT:=by
 intro pins s O H x vs v us Q I rx rv h;obtain ⟨l,xs,y,rfl,rfl,hH,hz,q⟩:=h;cases rx;obtain ⟨u,rfl,ru⟩:=rv.one;obtain ⟨z,its,n,r,hl,e⟩:=I.lstM hH;refine _bZ F.slot_list_append ⟨_,e,rfl⟩ F.entry_list_append (F.args_list_append_2 _ _) (PySem.list_append l its.toArray n u (by rw [_j];omega)) ⟨e,?_⟩;refine ⟨.non,_,I.lset (its':=its++[u]) hH e (by simp) (r.append (.cons ru .nil)) ?_,rfl,q⟩;rw [_X,List.length_singleton];omega
def zlj:R2:=fun x y H Q=>∃ l k xs,x=.ref l/\y=.int k/\Rd H l (.lst xs)/\-(2 ^ 63)<=k/\k<2 ^ 63/\xs.length*k.toNat<=sizeLine/\ ∀ p,H p=none->Q (.ref p) (upd H p (.lst (List.replicate k.toNat xs).flatten))
theorem len_rep{α:Type}(xs:List α)(k:Nat):(List.replicate k xs).flatten.length=k*xs.length:=by induction k with
 | zero=>simp | succ k ih=>rw [_ao,_a7,_X,ih,Nat.succ_mul,Nat.add_comm]
theorem zhl:OpR X (binaryOp .Mult) zlj:=by
 intro pins s O H x y v u Q I rx ry h;obtain ⟨l,k,xs,rfl,rfl,hH,h1,h2,hz,q⟩:=h;cases rx;obtain ⟨t,rfl⟩:=ry;obtain ⟨z,its,n,r,e⟩:=hH.ok I.hok;have hl:xs.length=its.length:=by have:=r.length;omega
 have hlen:its.toArray.size*k.toNat<=sizeLine:=by rw [_j,<- hl];exact hz
 have hcap:¬ its.toArray.size*k.toNat > (2 ^ 63-1) / 8:=by
  have:(sizeLine:Nat)<=(2 ^ 63-1) / 8:=by decide
  omega
 have hfit:¬ (!Builtin.List.listFitsIndex k)=true:=by
  rw [fitsIndex_both h1 h2];exact _N
 have hlong:¬ Builtin.List.listTooLong (its.toArray.size*k.toNat)=true:=by
  rw [zdm hlen];exact _N
 have hnew:List.foldl (fun x1 x2=>x1++x2) #[] (List.replicate (if its.toArray.isEmpty=true then 0 else k.toNat) its.toArray)=(List.replicate k.toNat its).flatten.toArray:=by
  have f0:∀ m:Nat,List.foldl (fun x1 x2=>x1++x2) #[] (List.replicate m its.toArray)=(List.replicate m its).flatten.toArray:=fun m=>by
   have:=foldl_rep its m [];rw [_aQ] at this;exact this
  rw [f0];cases its with
  | nil=>simp | cons a r'=>rw [_q (by simp)]
 refine wpAny_binaryOp_repeat_ref (T:="list") (U:="int") (by decide) ⟨_,e,rfl⟩ (fun s'=>typeIs_int s' k t) noFill_list_mul F.fills_int_mul F.slot_int_rmul repeat_list F.slot_int_index.lookup (_bZ F.slot_int_rmul (typeIs_int s k t) F.entry_int_rmul (F.args_int_rmul_2 _ _) (int___rmul___int_list k t l its.toArray n) ⟨e,rfl,⟨_,e,rfl⟩,_bZ F.slot_list_mul ⟨_,e,rfl⟩ F.entry_list_mul (F.args_list_mul_2 _ _) (AutoListH.list___mul___list_int_3 l its.toArray n k t hfit hcap hlong) ⟨e,?_⟩⟩);rw [hnew];exact ⟨.ref _,_,I.lnew (t':=s.toks) (r.rep k.toNat) (by rw [len_rep,Nat.mul_comm];exact hz),rfl,q _ I.fresh⟩
end
end L2
namespace Att
open PySem.W PySem.Calls
theorem z2x{P:Params}{h:Heap}:∀ (ns:List Int)(vs:List Value),WellAll P h vs (ns.map WData.int)->IntsAre vs ns:=by
 intro ns;induction ns with
 | nil=>
  intro vs w;rw [_cp] at w;cases w;exact .nil | cons n ns ih=>
  intro vs w;rw [_s] at w;cases w with | cons a b=>
   cases a;exact .cons _ _ (ih _ b)
theorem zbU {l:OpenLaw} {n:Nat} (hn:l.most=some n) {P:Params} {h:Heap} {args:List WData} {vals:List Value} (hpre:l.row.toRowW.claim.pre args=true) (hwl:WellAll P h vals args): ∃ a vs ns,vals=[Value.ref a]/\args=[WData.list (ns.map WData.int)]/\h.get? a=some {cls:=.type "list",data:=.seq vs.toArray}/\IntsAre vs ns/\ns.length<=n:=by
 have hsh:WShape.hasAll [] args [.list .int]=true:=(pre_splitW hpre).1;have hc:l.pre.holds [] {args:=args}=true:=(pre_splitW hpre).2;obtain ⟨d,r,rfl,h1,h2⟩:=hasAllW_cons hsh;obtain rfl:=hasAllW_nil h2;obtain ⟨xs,rfl,h3⟩:=hasW_list h1;obtain ⟨ns,rfl⟩:=items_int h3;have hlen:ns.length<=n:=by
  unfold OpenLaw.pre at hc;have h4:(WTm.not (.lt (.lit (.int (n:Int))) (.len (.arg 0)))).holds [] {args:=[.list (ns.map .int)]}=true:=by
   have h4:=(holds_andW hc).1;rw [hn] at h4;exact h4
  have h5:=condW_of h4 (w_not (w_lt w_lit (w_len_list (w_arg rfl))));rw [_B] at h5;refine Nat.le_of_not_lt fun q=>?_;have q':(n:Int)<(ns.length:Int):=by omega
  first
   | (rw [_cv q'] at h5;exact absurd h5 (by decide)) | (simp at h5;omega)
 cases hwl with | cons w1 w2=>
  cases w2;cases w1 with | list ho hall=>exact ⟨_,_,ns,rfl,rfl,ho,z2x ns _ hall,hlen⟩
theorem zaZ (l:OpenLaw) (args:List WData):l.row.toRowW.claim.post args (.bool true) args=true:= postW_of (r:=l.row.toRowW) (X:=(true==true)) (show WShape.has [] (.bool true) .bool=true by first | rfl | decide | simp [WShape.has,WShape.arms,WShape.armsAll]) (show (WTm.eq .res (.lit (.bool true))).value [] {args:=args,res:=some (.bool true),after:=args}=some (.bool (true==true)) from w_eq_bool (w_res rfl) w_lit) rfl
theorem z77{l:OpenLaw}{n:Nat}{q:Program}{loose:List Str}{XP:(Str->Option Value)->Heap->Prop}{YP:World->Heap->Prop}{d:DefRec} (hn:l.most=some n)(hdf:d.params.defaults=[]) (call:∀ (w:World)(s₀ s₁:Shared)(mg mb:Str->Option Value)(fa:Addr)(o:Obj)(pm cd doc:Value)(a:Addr)(vs:List Value)(ns:List Int), Ground q loose [] XP w s₀ mg mb s₁.heap->YP w s₁.heap-> s₁.heap.get? fa=some o->o.data=.func (docDef d.name d.params d.body d.scope pm cd doc)->s₁.heap.CodeRec cd d.name->mg d.name=some (.ref fa)-> s₁.heap.get? a=some {cls:=.type "list",data:=.seq vs.toArray}->IntsAre vs ns->ns.length<=n->s₁.gens=#[]-> codeAny (model l.prog w) callerA (.call (.ref fa) ⟨[.ref a],[]⟩) (fun r s'=>r=.ok (.ret (.bool true))/\OldK s₁.heap s'.heap/\s'.os=s₁.os/\AllBare s'.gens) s₁): WalkO q loose XP YP l.row.toRowW d [] (fun f vs=>PySem.call f vs):=by
 intro w s₀ s₁ mg mb G Yy fa o pm cd doc dV kV ho hd hcd hD hmg hg args vals as hpre hlay hrd hwl hlo;obtain rfl:dV=.none:=Dflts.none hD hdf;obtain rfl:kV=.none:=Dflts.noKw hD;obtain ⟨a,vs,ns,rfl,rfl,hobj,hints,hlen⟩:=zbU hn hpre hwl;refine enter_call (_co (call w s₀ s₁ mg mb fa o pm cd doc a vs ns G Yy ho (fd_plain hd) hcd hmg hobj hints hlen hg) fun r s' hq=>?_);obtain ⟨rfl,h2,h3,h4⟩:=hq;exact ⟨.inl ⟨.bool true,.bool true,[],rfl,fun _=>rfl,.bool true,zaZ l _,fun _=>⟨List.Pairwise.nil,fun _ hm=>(nomatch hm)⟩⟩,h2,h3,h4⟩
section
variable {prog:Program}{w:World}{A:Around}{E:Value->Shared->Prop}{s:Shared}{K:Frag}
def ledger(h:Heap)(L d:Addr):List (Addr×Obj):=(List.range h.objs.size).filterMap fun a=>if a=L\/a=d then none else (h.get? a).map fun o=>(a,o)
end
end Att
namespace L2
theorem z56:∀ {vs:List Value}{ns:List Int},IntsAre vs ns->ym (ns.map V.int) vs
 | _,_,.nil=>.nil | _,_,.cons n t h=>.cons ⟨t,rfl⟩ (z56 h)
def zkv(H:Hp):Prop:=∀ b,H b=none\/∃ o xs,H b=some (.frz o (.lst xs))
theorem zcW {P:Program} {w:World} {K:W.Frag} {mg mb:Str->Option Value} {CX:CXT} {k:Nat} {fa a:Addr} {fd:FuncData} {x:Str} {sp:Sp} {s₁:Shared} {vs:List Value} {ns:List Int} (KX:K.In s₁.heap) (hns:s₁.heap.Ns mainGlobals mg) (hb:s₁.heap.Ns builtinsNs mb) (hbb:∀ x:Str,x≠"__name__"->mb x=bootBuiltins x) (hlim:s₁.heap.NoLimit) (hg:s₁.gens=#[]) (ha:s₁.heap.get? a=some {cls:=.type "list",data:=.seq vs.toArray}) (hi:IntsAre vs ns) (hl:ns.length<=sizeLine) (hr:z09 k callerA) (F:∀ base:Heap,K.In base->base.Ns mainGlobals mg->z4g P w K mg base CX k fa fd [x] sp) (hbind:∀ (s:Shared) (u:Value),BindsTo s fd ⟨[u],[]⟩ [(x,u)]) (hsp:∀ H:Hp,zkv H->SqL K H a (ns.map V.int)->sp [.ref a] H (fun v _=>v=.bl true) fun _ _ _=>False) (hCX:∀ H e s',CX [] H s₁ (fun _ _ _=>False) e s'->False): codeAny (model P w) callerA (.call (.ref fa) ⟨[.ref a],[]⟩) (fun r s'=>r=.ok (.ret (.bool true))/\OldK s₁.heap s'.heap/\s'.os=s₁.os/\AllBare s'.gens) s₁:=by
 have rv:=z56 hi;have lenV:=hi.length;have core:∀ H:Hp,zkv H->SqL K H a (ns.map V.int)->HOk P w H s₁.heap->(∀ b,H b≠none->b=a)->(H a≠none->K.lookup a=none)-> codeAny (model P w) callerA (.call (.ref fa) ⟨[.ref a],[]⟩) (fun r s'=>r=.ok (.ret (.bool true))/\OldK s₁.heap s'.heap/\s'.os=s₁.os/\AllBare s'.gens) s₁:=by
  intro H hO hS hok hA hK;have base_of:∀ {b:Addr} {o:Obj},s₁.heap.get? b=some o->H b=none->(zcS s₁.heap H).get? b=some o:=fun e n=>zcR e n;have noA:∀ {b:Addr} {o:Obj} {es:Array DictEntry} {ep:Nat},s₁.heap.get? b=some o->o.data=.dict es ep->H b=none:=fun {b o es ep} e d=>by cases q:H b with
   | none=>rfl | some u=>
    have e':b=a:=hA b (by rw [q];simp);subst e';rw [ha] at e;cases e;have d':Data.seq vs.toArray _=Data.dict es ep:=d;cases d'
  have nsK:∀ {b:Addr} {m:Str->Option Value},s₁.heap.Ns b m->(zcS s₁.heap H).Ns b m:=fun {b m} ⟨o,es,ep,e,d,r⟩=>⟨o,es,ep,base_of e (noA e d),d,r⟩;have hKb:K.In (zcS s₁.heap H):=fun b o e=>base_of (KX b o e) (by cases q:H b with
   | none=>rfl | some u=>
    have e':b=a:=hA b (by rw [q];simp);subst e';rw [hK (by rw [q];simp)] at e;cases e);have hM:Mod K mg (zcS s₁.heap H):=⟨hKb,nsK hns,⟨mb,nsK hb,hbb⟩,let ⟨mc,h1,h2⟩:=hlim;⟨mc,nsK h1,h2⟩⟩;have e0:zhz P w K mg (zcS s₁.heap H) callerA [] s₁ H:=⟨rfl,hM,fun b o e=>zgD e,Nat.le_of_eq (z9z _ _),trivial,fun b hb=>absurd (show b∈([]:List Addr) from hb) (by simp),hok,.of_eq hg⟩;refine _co ((F _ hKb (nsK hns)).run callerA [] s₁ H ⟨[.ref a],[]⟩ [.ref a] [.ref a] _ _ hr e0 (hbind s₁ (.ref a)) (.cons rfl .nil) (hsp H hO hS)) fun r s' h=>?_;cases r with
  | error e=>exact (hCX H e s' h).elim | ok fl=> cases fl with
   | next=>exact False.elim h | brk=>exact False.elim h | cont=>exact False.elim h | ret u=>
    obtain ⟨v,H',os,bare,un,hok',r',q⟩:=h;have q':v=.bl true:=q;subst q';obtain rfl:u=Value.bool true:=r';refine ⟨rfl,OldK.of_keep fun b o e=>?_,os,bare⟩;cases q:H b with
    | none=>exact un.keep b o e q (by intro z;exact absurd (show b∈([]:List Addr) from z) (by simp)) (by simp) | some u=>
     rcases hO b with z | ⟨ob,xs,z⟩;·rw [q] at z;cases z
     ·have z2:=un.frzs b ob _ z;obtain ⟨e1,_⟩:=hok b _ z;obtain ⟨e2,_⟩:=hok' b _ z2;rw [e] at e1;cases e1;exact e2
 cases hk:K.lookup a with
 | some o=>
  have e:=KX a o hk;rw [ha] at e;cases e;refine core (fun _=>none) (fun _=>.inl rfl) (.inr ⟨_,vs.toArray,_,hk,rfl,rfl,rfl,by rw [_j,lenV];exact hl,by simpa using rv⟩) (fun b u z=>by have z':(none:Option HO)=some u:=z;cases z') (fun b z=>absurd rfl z) fun z=>absurd rfl z | none=>
  refine core (fun b=>if b=a then some (.frz {cls:=.type "list",data:=.seq vs.toArray} (.lst (ns.map V.int))) else none) (fun b=>?_) (.inl (.inr ⟨{cls:=.type "list",data:=.seq vs.toArray},_f rfl⟩)) (fun b u z=>?_) (fun b z=>?_) fun _=>hk
  ·by_cases hb:b=a;·exact .inr ⟨_,_,_f hb⟩
   ·exact .inl (_q hb)
  ·by_cases hb:b=a
   ·have z':=(_f hb).symm.trans z;cases z';subst hb;exact ⟨ha,by rw [_B];exact hl,vs,_,rv,ha⟩
   ·have z':=(_q hb).symm.trans z;cases z'
  ·by_cases hb:b=a;·exact hb
   ·exact absurd (_q hb) z
abbrev KOf{K:W.Frag}{h:Heap}(_:K.In h):W.Frag:=K
def z07(s:Stmt):Arguments:=match s with
 | .FunctionDef _ a _ _ _ _ _ _ _ _=>a | _=>{posonlyargs:=[],args:=[],vararg:=none,kwonlyargs:=[],kw_defaults:=[],kwarg:=none,defaults:=[]}
def wV(s:Stmt):List Stmt:=match s with
 | .FunctionDef _ _ b _ _ _ _ _ _ _=>b | _=>[]
def ze(s:Stmt):Scope:=match s with
 | .FunctionDef _ _ _ _ _ _ sc _ _ _=>sc | _=>{kind:=.function,names:=[],isGenerator:=false,isCoroutine:=false}
abbrev CX0:CXT:=fun _ _ _ _ _ _=>False
abbrev E0:XK:=fun _ _ _=>False
theorem yh{X:Cx}:Passes CX0 X E0:=fun _ _ _ _ _ _ _ h=>h.elim
structure Fun(K:W.Frag)(x qual:Str)(st:Stmt)(f:Addr)(fd:FuncData):Prop where
 ex:∃ (oc:Value)(od:Option Addr)(kV doc pm:Value)(an:Option Addr)(cdv ct:Value)(osl:Array (Option Value)), fd=W.fnOf x qual (z07 st) (wV st) (ze st) .none kV doc pm an cdv ct/\K.lookup f=some ⟨oc,od,.func fd,osl⟩/\W.codeIn K cdv qual=true
 kp:W.keepIn K (.ref f)=true
section
variable {P:Program}{w:World}{K:W.Frag}{mg:Str->Option Value}{base:Heap}
theorem Fun.ok{x qual:Str}{st:Stmt}{f:Addr}{fd:FuncData}{N ps:List Str}{k:Nat}{sp:Sp}(F:Fun K x qual st f fd)(S:zr N ps (ze st))(len:∀ vs H Q E,sp vs H Q E->vs.length=ps.length) (hbody:∀ (cdv:Value)(A:Around)(outer:List Env)(s:Shared)(H:Hp)(vs:List V)(Q:VK)(E:XK),z09 k (A.deeper (envOfC qual (ze st) s.heap.objs.size f cdv))->sp vs H Q E-> ∃ t,PSs (z25 CX0 P w K mg base N qual (ze st) f cdv A outer s H E).nox (wV st) t/\t {nx:=fun _ H'=>Q .non H',rt:=Q} (start N vs) H):z4g P w K mg base CX0 (k+1) f fd ps sp:=by
 obtain ⟨oc,od,kV,doc,pm,an,cdv,ct,osl,rfl,lk,hcd⟩:=F.ex;refine zgS lk hcd S len fun A outer s H vs Q E hr hsp=>?_;obtain ⟨t,h,q⟩:=hbody cdv A outer s H vs Q E hr hsp;exact ⟨t,h.nox,q⟩
theorem Fun.binds{x qual:Str}{st:Stmt}{f:Addr}{fd:FuncData}{ps:List Str}(F:Fun K x qual st f fd) (h:∀ (kV doc pm:Value)(an:Option Addr)(cdv ct:Value)(us:List Value),us.length=ps.length->bindArgs (W.fnOf x qual (z07 st) (wV st) (ze st) .none kV doc pm an cdv ct) ⟨us,[]⟩=pure (ps.zip us)):Binds K fd ps []:=by
 obtain ⟨oc,od,kV,doc,pm,an,cdv,ct,osl,rfl,lk,hcd⟩:=F.ex;exact .all (h kV doc pm an cdv ct)
theorem zis{x qual:Str}{st:Stmt}{f:Addr}{oc:Value}{od an:Option Addr}{osl:Array (Option Value)}{kV doc pm cdv ct:Value}(l:K.lookup f=some ⟨oc,od,.func (W.fnOf x qual (z07 st) (wV st) (ze st) .none kV doc pm an cdv ct),osl⟩) (c:W.codeIn K cdv qual=true)(k:W.keepIn K (.ref f)=true):Fun K x qual st f (W.fnOf x qual (z07 st) (wV st) (ze st) .none kV doc pm an cdv ct):=⟨⟨oc,od,kV,doc,pm,an,cdv,ct,osl,rfl,l,c⟩,k⟩
end
end L2
set_option maxHeartbeats 4000000
namespace L2
def z4o(env:Env):List (Str×NameKind)->List (Str×Addr)->List (Str×Addr)
 | [],acc=>acc | (n,k)::r,acc=>z4o env r (if k==.free then (match env.cells.lookup n with | some c=>(n,c)::acc | none=>acc) else acc)
theorem z2z{env:Env}:∀ (names:List (Str×NameKind))(acc:List (Str×Addr)),(∀ x c,acc.lookup x=some c->env.cells.lookup x=some c)->∀ x c,(z4o env names acc).lookup x=some c->env.cells.lookup x=some c
 | [],acc,ha=>ha | (n,k)::r,acc,ha=>by
  unfold z4o;refine z2z r _ fun x c=>?_;split
  ·split
   ·rename_i c' hc;intro h;rw [_Q] at h;split at h
    ·rename_i hb;cases h;rw [_ay.mp hb];exact hc
    ·exact ha x c h
   ·exact ha x c
  ·exact ha x c
theorem z5X{env:Env}{x:Str}:∀ (names:List (Str×NameKind))(acc:List (Str×Addr)),(acc.lookup x).isSome=true->((z4o env names acc).lookup x).isSome=true
 | [],acc,ha=>ha | (n,k)::r,acc,ha=>by
  unfold z4o;refine z5X r _ ?_;split
  ·split
   ·rw [_Q];split;·rfl
    ·exact ha
   ·exact ha
  ·exact ha
theorem z3M{env:Env}{x:Str}:∀ (names:List (Str×NameKind))(acc:List (Str×Addr)),(x,NameKind.free)∈names->(∃ c,env.cells.lookup x=some c)->∃ c,(z4o env names acc).lookup x=some c
 | [],acc,h,_=>nomatch h | (n,k)::r,acc,h,hc=>by
  rcases _z.mp h with e | h
  ·cases e;obtain ⟨c,hc⟩:=hc;unfold z4o;have q:((z4o env r ((x,c)::acc)).lookup x).isSome=true:=z5X r _ (by simp);rw [_f (by rfl),hc];exact _ai.mp q
  ·unfold z4o;exact z3M r _ h hc
theorem z3h{env:Env}(f:Str×NameKind->List (Str×Addr)->Sem (ForInStep (List (Str×Addr)))) (hf:∀ n k cs,f (n,k) cs=if k==.free then (do let a <- cellOf env n;pure (.yield ((n,a)::cs))) else pure (.yield cs)): ∀ (names:List (Str×NameKind))(acc:List (Str×Addr)),(∀ y∈names,y.2=.free->∃ c,env.cells.lookup y.1=some c)->forIn names acc f=pure (z4o env names acc)
 | [],acc,_=>rfl | (n,k)::r,acc,h=>by
  rw [List.forIn_cons,hf];have ih:=fun acc'=>z3h f hf r acc' fun y hy=>h y (_y _ hy);unfold z4o;by_cases hk:k=.free
  ·subst hk;obtain ⟨c,hc⟩:=h (n,.free) _M rfl;have hc':env.cells.lookup n=some c:=hc;have e:cellOf env n=pure c:=by unfold cellOf;rw [hc']
   rw [_f (by rfl),_f (by rfl),e,hc',pure_bind,pure_bind];exact ih _
  ·have hb:(k==NameKind.free)=false:=by simpa using hk
   rw [hb,_q (by decide),_q (by decide),pure_bind];exact ih _
theorem vk{scope:Scope}{env:Env}(h:∀ y∈scope.names,y.2=.free->∃ c,env.cells.lookup y.1=some c):closureFor scope env=pure (z4o env scope.names []):=by
 simp only [closureFor];rw [z3h (env:=env) _ (fun n k cs=>by cases hk:k==NameKind.free<;>simp [hk]) scope.names [] h];simp
theorem xY:∀ (names:List (Str×NameKind))(n:Nat)(acc:List (Str×Addr)),cellsFrom n names acc=cellsFrom n names []++acc
 | [],_,_=>rfl | (x,k)::r,n,acc=>by
  unfold cellsFrom;split
  ·rw [xY r (n+1) ((x,n)::acc),xY r (n+1) [(x,n)]];simp
  ·exact xY r n acc
theorem uN{x:Str}{c:Addr}:∀ (names:List (Str×NameKind))(n:Nat)(acc:List (Str×Addr)),(x,c)∈cellsFrom n names acc->(x,c)∈acc\/(x,NameKind.cell)∈names
 | [],_,_,h=>.inl h | (y,k)::r,n,acc,h=>by
  unfold cellsFrom at h;split at h
  ·rename_i hk;rcases uN r _ _ h with q | q
   ·rcases _z.mp q with e | q
    ·cases e;refine .inr ?_;rw [show k=NameKind.cell from _ay.mp hk];exact _M
    ·exact .inl q
   ·exact .inr (_y _ q)
  ·rcases uN r _ _ h with q | q;·exact .inl q
   ·exact .inr (_y _ q)
def z7L(X:Cx)(scope:Scope)(C:Addr):Env:= {scope:=relabel scope X.env,locals:=C,globals:=X.env.globals,cells:=cellsFrom (C+1) scope.names []++z4o X.env scope.names [],qual:=X.env.qual,func:=none,code:=X.env.code,frame:=X.env.frame,builtins:=X.env.builtins}
def zk(X:Cx)(N':List Str)(scope:Scope)(ex:List Addr)(s:Shared)(H:Hp):Cx where
 prog:=X.prog;w:=X.w;K:=X.K;mg:=X.mg;base:=X.base;A:=X.A;N:=N';s₀:=s;H₀:=H;env:=z7L X scope s.heap.objs.size;outer:=X.stack;stack:=X.stack;ex:=ex;fn:=fun x=>scope.names.lookup x==some .cell;calm:=X.calm;pn:=[];xe:=fun _ _=>False
theorem jA{env:Env}{x:Str}{k:NameKind}:∀ {names:List (Str×NameKind)},names.lookup x=some k-> (names.map fun (n,k)=>if (k==NameKind.free&&env.scope.kind==.function&&env.kindOf n==some .cell) then (n,NameKind.cell) else (n,k)).lookup x=some k\/ (k=.free/\(names.map fun (n,k)=>if (k==NameKind.free&&env.scope.kind==.function&&env.kindOf n==some .cell) then (n,NameKind.cell) else (n,k)).lookup x=some .cell)
 | [],h=>by simp at h | (n,k')::r,h=>by
  have ih:=@jA env x k r;show List.lookup x ((if (k'==NameKind.free&&env.scope.kind==.function&&env.kindOf n==some .cell)=true then (n,NameKind.cell) else (n,k'))::_)=_\/(_/\List.lookup x ((if (k'==NameKind.free&&env.scope.kind==.function&&env.kindOf n==some .cell)=true then (n,NameKind.cell) else (n,k'))::_)=_);cases hx:x==n with
  | true=>
   simp only [_Q,hx] at h;cases h;by_cases hc:(k==NameKind.free&&env.scope.kind==.function&&env.kindOf n==some .cell)=true
   ·rw [_f hc];simp only [_E,_ay] at hc;exact .inr ⟨hc.1.1,by simp [_Q,hx]⟩
   ·rw [_q hc];exact .inl (by simp [_Q,hx]) | false=>
   simp only [_Q,hx] at h;by_cases hc:(k'==NameKind.free&&env.scope.kind==.function&&env.kindOf n==some .cell)=true;·rw [_f hc];simp only [_Q,hx];exact ih h
   ·rw [_q hc];simp only [_Q,hx];exact ih h
theorem ub{env:Env}{x:Str}{k:NameKind}:∀ {names:List (Str×NameKind)}, (names.map fun (n,k)=>if (k==NameKind.free&&env.scope.kind==.function&&env.kindOf n==some .cell) then (n,NameKind.cell) else (n,k)).lookup x=some k->(k=.cell\/k=.free)->(x,NameKind.cell)∈names\/(x,NameKind.free)∈names
 | [],h,_=>by simp at h | (n,k')::r,h,hk=>by
  have ih:=@ub env x k r;change List.lookup x ((if (k'==NameKind.free&&env.scope.kind==.function&&env.kindOf n==some .cell)=true then (n,NameKind.cell) else (n,k'))::_)=_ at h;have step:(List.lookup x (r.map fun (n,k)=>if (k==NameKind.free&&env.scope.kind==.function&&env.kindOf n==some .cell) then (n,NameKind.cell) else (n,k))=some k)->(x,NameKind.cell)∈(n,k')::r\/(x,NameKind.free)∈(n,k')::r:=fun q=> (ih q hk).elim (fun z=>.inl (_y _ z)) fun z=>.inr (_y _ z);by_cases hc:(k'==NameKind.free&&env.scope.kind==.function&&env.kindOf n==some .cell)=true
  ·rw [_f hc,_Q] at h;split at h
   ·rename_i hb;simp only [_E,_ay] at hc;rw [_ay.mp hb,hc.1.1];exact .inr _M
   ·exact step h
  ·rw [_q hc,_Q] at h;split at h
   ·rename_i hb;cases h;rw [_ay.mp hb];rcases hk with rfl | rfl;·exact .inl _M
    ·exact .inr _M
   ·exact step h
def inner(mp:List (Option Nat))(O:St):St:=mp.map fun o=>match o with | some j=>(O[j]?).getD none | none=>none
def z1F(N:List Str)(names:List (Str×NameKind)):List Str->List (Option Nat)->Bool
 | [],[]=>true | _::r,none::mp=>z1F N names r mp | x::r,some j::mp=>N[j]? == some x&&names.lookup x==some .free&&z1F N names r mp | _,_=>false
theorem z3V{N:List Str}{names:List (Str×NameKind)}:∀ {N':List Str}{mp:List (Option Nat)},z1F N names N' mp=true->mp.length=N'.length
 | [],[],_=>rfl | _::_,none::_,h=>by
  simp only [z1F] at h;simp only [_i];rw [z3V h] | _::_,some _::_,h=>by
  simp only [z1F,_E] at h;simp only [_i];rw [z3V h.2] | [],none::_,h=>by cases h | [],some _::_,h=>by cases h | _::_,[],h=>by cases h
theorem z7N{N:List Str}{names:List (Str×NameKind)}:∀ {N':List Str}{mp:List (Option Nat)}{i j:Nat}{x:Str},z1F N names N' mp=true->N'[i]? = some x->mp[i]? = some (some j)->N[j]? = some x/\names.lookup x=some .free
 | [],_,_,_,_,_,h,_=>by simp at h | _::_,[],_,_,_,_,_,h=>by simp at h | _::_,none::_,0,_,_,_,_,h=>by simp at h | _::_,some _::_,0,_,_,h,h1,h2=>by
  simp only [z1F,_E,_ay] at h;simp at h1 h2;subst h1 h2;exact h.1 | _::_,none::_,i+1,_,_,h,h1,h2=>by
  simp only [z1F] at h;exact z7N (i:=i) h (by simpa using h1) (by simpa using h2) | _::_,some _::_,i+1,_,_,h,h1,h2=>by
  simp only [z1F,_E] at h;exact z7N (i:=i) h.2 (by simpa using h1) (by simpa using h2)
section
variable {X:Cx}{pins:List (Addr×Obj)}{O:St}{H:Hp}{s s1:Shared}{scope:Scope}{N':List Str}{ex:List Addr}{mp:List (Option Nat)}
theorem z9j{α:Type}{x:Str}{l1 l2:List (Str×α)}{c:α}(h:(l1++l2).lookup x=some c):l1.lookup x=some c\/(l1.lookup x=none/\l2.lookup x=some c):=by
 rw [_bF] at h;cases e:l1.lookup x with
 | some d=>rw [e] at h;exact .inl h | none=>rw [e] at h;exact .inr ⟨rfl,h⟩
theorem z3G (I:Inv X pins O H s) (hkd:scope.kind=.function) (hnm:∀ y∈scope.names,scope.names.lookup y.1=some y.2) (hfr:∀ y∈scope.names,y.2=.free->X.env.kindOf y.1=some .cell\/X.env.kindOf y.1=some .free) (hmp:z1F X.N scope.names N' mp=true) (hex:∀ b∈ex,b<s.heap.objs.size/\H b=none/\b≠X.env.locals/\b∉X.fs/\(b∈X.ex\/X.s₀.heap.objs.size<=b)/\(∀ x c,X.env.cells.lookup x=some c->c≠b)) (e1:s1.heap=pushCells (s.heap.push {cls:=.type "dict",data:=.dict #[]}) scope.names) (e2:s1.os=s.os) (e3:s1.gens=s.gens): Inv (zk X N' scope ex s H) [] (inner mp O) H s1:=by
 have keep:∀ b o,s.heap.get? b=some o->s1.heap.get? b=some o:=fun b o e=>by rw [e1];exact _ce _ _ b o (_d _ e)
 have ok:=cellsFrom_ok scope.names (s.heap.push {cls:=.type "dict",data:=.dict #[]}) (s.heap.objs.size+1) [] ⟨fun _ _ hm=>(nomatch hm),List.Pairwise.nil⟩ (by rw [_al];exact _g _);rw [_al,<- e1] at ok;have hclo:∀ x c,(z4o X.env scope.names []).lookup x=some c->X.env.cells.lookup x=some c:=z2z scope.names [] (fun x c h=>by simp at h);have clt:∀ x c,X.env.cells.lookup x=some c->c<s.heap.objs.size:=fun x c h=>by obtain ⟨v,q⟩:=I.cell x c h;exact q.lt
 have own:∀ x c,(cellsFrom (s.heap.objs.size+1) scope.names []).lookup x=some c->s1.heap.IsCell c none/\s.heap.objs.size+1<=c:=fun x c h=>ok.empty x c (_ab h);have both:∀ x c,(z7L X scope s.heap.objs.size).cells.lookup x=some c->((cellsFrom (s.heap.objs.size+1) scope.names []).lookup x=some c/\s1.heap.IsCell c none/\s.heap.objs.size+1<=c)\/(X.env.cells.lookup x=some c):=fun x c h=>by
  rcases z9j h with q | ⟨_,q⟩;·exact .inl ⟨q,own x c q⟩
  ·exact .inr (hclo x c q)
 refine ⟨⟨I.ok.mod,hkd,I.ok.glob,I.ok.blt,_g _,fun x y c h1 h2=>?_,fun x hx=>?_,fun x c hf h=>?_,I.ok.hd,I.ok.frames,.inl rfl,fun b hb=>⟨_x (hex b hb).1,fun x c h=>?_⟩,fun b o e=>I.bs b o e,_U I.ok.bsz I.sz,fun b o e hb=>?_,fun b hb hf=>?_,I.stack,I.stkFree⟩, e2,by rw [e3];exact I.bare,Un.kept keep,?_,fun x c h=>?_,I.hok.fresh (_g _),fun x c h=>?_,fun p hp=>absurd (show p∈([]:List (Addr×Obj)) from hp) (by simp),I.hok.kept keep,?_⟩
 ·rcases both x c h1 with ⟨q1,_,l1⟩ | q1<;>rcases both y c h2 with ⟨q2,_,l2⟩ | q2;·exact name_of_addr ok.apart (_ab q1) (_ab q2)
  ·exact absurd (_r (clt y c q2) (_cM l1)) (_am _)
  ·exact absurd (_r (clt x c q1) (_cM l2)) (_am _)
  ·exact I.ok.inj x y c q1 q2
 ·have hx':(x,NameKind.cell)∈scope.names\/(x,NameKind.free)∈scope.names:=by
   rcases hx with hx | hx;·exact ub (env:=X.env) hx (.inl rfl)
   ·exact ub (env:=X.env) hx (.inr rfl)
  show ∃ c,(cellsFrom (s.heap.objs.size+1) scope.names []++z4o X.env scope.names []).lookup x=some c;rw [_bF];cases e:(cellsFrom (s.heap.objs.size+1) scope.names []).lookup x with
  | some c=>exact ⟨c,rfl⟩ | none=>
   rcases hx' with hx' | hx'
   ·obtain ⟨c,q⟩:=z1r (sc:=scope) (n:=s.heap.objs.size+1) (hnm (x,.cell) hx');rw [q] at e;cases e
   ·obtain ⟨c,q⟩:=z3M (env:=X.env) scope.names [] hx' (I.ok.has x (hfr (x,.free) hx' rfl));exact ⟨c,by simpa using q⟩
 ·have hf':scope.names.lookup x=some .cell:=_ay.mp hf;obtain ⟨c',q⟩:=z1r (sc:=scope) (n:=s.heap.objs.size+1) hf';have h':(cellsFrom (s.heap.objs.size+1) scope.names []++z4o X.env scope.names []).lookup x=some c:=h;rw [_bF,q] at h';have e:c'=c:=_K h';subst e;exact _dl (Nat.lt_of_succ_le (own x c' q).2)
 ·rcases both x c h with ⟨_,_,l⟩ | q
  ·intro z;rw [z] at l;exact absurd (_r (hex b hb).1 (_cM l)) (_am _)
  ·exact (hex b hb).2.2.2.2.2 x c q
 ·rcases (hex b hb).2.2.2.2.1 with z | z;·exact I.ok.noex b o e z
  ·exact absurd (_r (_r (_l e) I.ok.bsz) z) (_am _)
 ·have q:=I.stkSub b hf;rcases _z.mp q with z | z;·exact (hex b hb).2.2.1 z
  ·exact (hex b hb).2.2.2.1 z
 ·refine ⟨fun _=>none,?_,fun i x v h1 h2 h3=>?_⟩
  ·rw [e1];exact (Heap.Ns.new s.heap (.type "dict")).keeps (_ce _ _)
  ·have h2':(inner mp O)[i]? = some (some v):=h2;unfold inner at h2';rw [_P] at h2';cases em:mp[i]? with
   | none=>rw [em] at h2';cases h2' | some o=>
    rw [em] at h2';cases o with
    | none=>cases h2' | some j=>
     obtain ⟨hj,hl⟩:=z7N hmp h1 em;have hmem:(x,NameKind.free)∈scope.names:=_ab hl;have hv:O[j]? = some (some v):=by
      simp only [_S] at h2';cases eO:O[j]? with
      | none=>rw [eO] at h2';cases h2' | some o=>rw [eO] at h2';exact h2'
     obtain ⟨m,hn,hlook⟩:=I.loc;have kx:X.env.kindOf x=some .cell\/X.env.kindOf x=some .free:=hfr _ hmem rfl;obtain ⟨u,r,L⟩:=hlook j x v hj hv (by rcases kx with k | k;exact .inr (.inl k);exact .inr (.inr k));refine ⟨u,r,.inr ?_⟩;rcases L with ⟨k,_⟩ | ⟨_,c,hc,hcell⟩;·rcases kx with k' | k'<;>(rw [k] at k';cases k')
     ·have ncell:(x,NameKind.cell)∉scope.names:=fun z=>by
       have a:=hnm _ z;rw [hl] at a;cases a
      refine ⟨?_,c,?_,hcell.keeps keep⟩
      ·rcases jA (env:=X.env) hl with q | ⟨_,q⟩;·exact .inr q
       ·exact .inl q
      ·show (cellsFrom (s.heap.objs.size+1) scope.names []++z4o X.env scope.names []).lookup x=some c;rw [_bF];cases e:(cellsFrom (s.heap.objs.size+1) scope.names []).lookup x with
       | some c'=> exact absurd ((uN _ _ _ (_ab e)).resolve_left (by simp)) ncell | none=>
        obtain ⟨c2,q⟩:=z3M (env:=X.env) scope.names [] hmem ⟨c,hc⟩;have q2:=hclo x c2 q;rw [hc] at q2;cases q2;simpa using q
 ·rcases both x c h with ⟨_,q,_⟩ | q;·exact ⟨_,q⟩
  ·obtain ⟨v,z⟩:=I.cell x c q;exact ⟨v,z.keeps keep⟩
 ·rcases both x c h with ⟨_,_,l⟩ | q;·exact I.hok.fresh (by omega)
  ·exact I.freeC x c q
 ·unfold inner;rw [_B];exact z3V hmp
end
section
variable {M:Model}{A:Around}{E:Value->Shared->Prop}{s:Shared}
theorem z2E{scope:Scope}{env:Env}{cl:List (Str×Addr)}{Q:Env->Shared->Prop} (h:Q {scope:=scope,locals:=s.heap.objs.size,globals:=env.globals,cells:=cellsFrom (s.heap.objs.size+1) scope.names cl,qual:=env.qual,func:=none,code:=env.code,frame:=env.frame,builtins:=env.builtins} {s with heap:=pushCells (s.heap.push {cls:=.type "dict",data:=.dict #[]}) scope.names}): wpAny M A (newFunctionEnv scope env.globals cl [] env.qual none .none (some env)) Q E s:=by
 simp only [newFunctionEnv,Option.isSome_some,_H];refine _a (wpAny_alloc ?_);refine _a (wpAny_layCells _ (fun name kind cells=>by cases hkc:kind==NameKind.cell<;>simp [hkc]) _ _ _ _ ?_);rw [show ({s with heap:=s.heap.push {cls:=.type "dict",data:=.dict #[]}}:Shared).heap.objs.size=s.heap.objs.size+1 from _al ..];refine _a ?_;rw [List.forIn_nil];exact _c (_c h)
end
section
variable {prog:Program}{w:World}{A:Around}{E:Value->Shared->Prop}{R:Result->Shared->Prop}{s:Shared}
theorem z5s{elt target iter:Expr}{ifs:List Expr}{scope:Scope}{pos:Pos}{it acc:Value}{env:Env}(I:Nat->Shared->Prop) (turn:∀ n s,I n s->wpAny (model prog w) A (pyNext it) (fun r s₁=>match r with
   | none=>R (.ok .next) s₁ | some v=>wpAny (model prog w) A (letOwnedTupleGo target it v) (fun _ s₁'=>wpAny (model prog w) A (assign target env v) (fun _ s₂=> wpAny (model prog w) A (forIn ifs true fun c r=>if r=true then do let ok <- isTrue c env (eval c env);pure (ForInStep.yield ok) else pure (ForInStep.yield r)) (fun ok s₃=> if ok=true then wpAny (model prog w) A (eval elt env) (fun x s₄=> wpAny (model prog w) A (call (.builtin "list.append") [acc,x]) (fun _ s₅=>∃ m,m<n/\I m s₅) (fun _ _=>False) s₄) (fun _ _=>False) s₃ else ∃ m,m<n/\I m s₃) (fun _ _=>False) s₂) (fun _ _=>False) s₁') (fun _ _=>False) s₁) (fun _ _=>False) s) (n:Nat)(h:I n s): codeAny (model prog w) A (.compLoop (.ListComp elt [⟨target,iter,ifs,0⟩] scope pos) 0 it acc env) R s:=by
 refine codeAny_loop rfl I (fun n s hI=>?_) n h;show wpAny _ A ((compTurn (.ListComp elt [⟨target,iter,ifs,0⟩] scope pos) 0 it acc env).onRaise (fun x=>do noteFrame x env;theTreesLotGoes x)) _ _ s;refine wpAny_noted ?_;rw [compTurn_list];refine _a (_aJ (_a (_t (turn n s hI) (fun r s₁ h₁=>?_) fun _ _ h'=>h'.elim)));cases r with
 | none=>exact _c h₁ | some v=>
  refine _a (_t h₁ (fun _ s₁' h₁'=>?_) fun _ _ h'=>h'.elim);refine _a (_t h₁' (fun _ s₂ h₂=>_a (_t h₂ (fun ok s₃ h₃=>?_) fun _ _ h'=>h'.elim)) fun _ _ h'=>h'.elim);cases ok with
  | false=>exact _c ⟨rfl,h₃⟩ | true=> exact _a (_a (_t h₃ (fun x s₄ h₄=>_a (_t h₄ (fun _ s₅ h₅=>_c (_c ⟨rfl,h₅⟩)) fun _ _ h'=>h'.elim)) fun _ _ h'=>h'.elim))
end
def z7X(X:Cx)(ifs:List Expr)(t:TT):Prop:= ∀ (pins:List (Addr×Obj))(s:Shared)(O:St)(H:Hp)(Q:Bool->Hp->Prop),Inv X pins O H s->t O H Q-> wpAny (model X.prog X.w) X.A (forIn ifs true fun c r=>if r=true then do let ok <- isTrue c X.env (eval c X.env);pure (ForInStep.yield ok) else pure (ForInStep.yield r)) (TP X pins O Q) X.xe s
theorem zdp{X:Cx}:z7X X [] (fun _ H Q=>Q true H):=fun _ _ _ H _ I h=>wpAny_tests_nil ⟨H,I,h⟩
theorem zdG{X:Cx}{c:Expr}{t:TT}(h:PT X c t):z7X X [c] t:=fun pins s O H Q I hq=>wpAny_tests_one (h pins s O H Q I hq)
theorem Inv.track {X:Cx} {pins:List (Addr×Obj)} {O:St} {H:Hp} {s:Shared} {a:Addr} {o:HO} (I:Inv X pins O H s) (f:z2G X pins H a) (new:yj X.prog X.w (upd H a o) s.heap a o):Inv X pins O (upd H a o) s:=by
 obtain ⟨f0,f1,f2,f3,f4,f5⟩:=f;have hs:HOk X.prog X.w (upd H a o) s.heap:=fun b u e=>by
  by_cases hb:b=a;·subst hb;rw [zC] at e;cases e;exact new
  ·rw [zx hb] at e;exact (I.hok b u e).stay (fun _ _ _ q=>q) (fun c q=>by rw [zx (yw q f0)];exact q) fun c xs q=>by rw [zx (yw q f0)];exact q
 exact I.step (h':=s.heap) (g':=s.gens) (d':=s.drawn) (t':=s.toks) (ch:=[a]) (fun b hb=>by
  have e:b=a:=by simpa using hb
  subst e;exact ⟨f3,f1,f4,f5⟩) (fun b o _ _ _ e _=>e) (fun b o _ _ _ e _=>⟨o.slots,e⟩) (fun b o hb _ n=>by rw [zx (fun z=>hb (by simp [z]))];exact n) (fun b o _ e=>⟨o,e⟩) (fun b xs q=>by rw [zx (yw q f0)];exact q) (fun b u xs q=>by rw [zx (yw q f0)];exact q) (fun b ps q=>⟨#[],by rw [zx (yw q f0),q];simp⟩) (fun _ q=>q) hs I.bare
def zdF(wi:TI)(mp:List (Option Nat))(g:TG)(ti:TT)(te:TE):TE:=fun O H Q=>wi O H fun J H1=>∃ W:Nat->Nat->List V->Hp->Prop,(∃ m,W 0 m [] H1)/\∀ i m ys H,W i m ys H-> (J.stop i H/\ys.length<=sizeLine/\∀ p,H p=none->Q (.ref p) (upd H p (.lst ys)))\/ (J.go i H/\∀ x H',J.yld i H x H'->g x (inner mp O) H' fun O2 H2=>(O2.length=(inner mp O).length/\∀ (i:Nat) v,(inner mp O)[i]? = some (some v)->O2[i]? = some (some v))/\ ti O2 H2 fun b H3=>if b=true then te O2 H3 fun y H4=>ys.length<=sizeLine/\∃ m',m'<m/\W (i+1) m' (ys++[y]) H4 else ∃ m',m'<m/\W (i+1) m' ys H3)
def km(X:Cx)(pins:List (Addr×Obj))(O:St)(C:Addr)(Q:VK)(acc:Value)(s':Shared):Prop:= ∃ v Hf,Inv X pins O Hf s'/\yu v acc/\Q v Hf/\(∃ m,s'.heap.Ns C m)/\z2G X pins Hf C
theorem z04 {X:Cx} {tg iter elt:Expr} {ifs:List Expr} {scope:Scope} {pos:Pos} {g:TG} {ti:TT} {te:TE} {N':List Str} {mp:List (Option Nat)} {pins:List (Addr×Obj)} {O:St} {Q:VK} {J:It} {H2:Hp} {s₂:Shared} {it:Addr} {fp:List Addr} {tn:Nat->Heap->Prop} {E:Value->Shared->Prop} {RR:Value->Addr->Result->Shared->Prop} (hc:X.calm=true) (hg:∀ ex s H,PG (zk X N' scope ex s H) tg g) (ht:∀ ex s H,z7X (zk X N' scope ex s H) ifs ti) (he:∀ ex s H,PE (zk X N' scope ex s H) elt te) (hkd:scope.kind=.function) (hnm:∀ y∈scope.names,scope.names.lookup y.1=some y.2) (hfr:∀ y∈scope.names,y.2=.free->X.env.kindOf y.1=some .cell\/X.env.kindOf y.1=some .free) (hmp:z1F X.N scope.names N' mp=true) (I2:Inv X pins O H2 s₂) (T:zcI X.prog X.w X.K tg J fp it tn) (st2:tn 0 s₂.heap) (f2:∀ b∈fp,z2G X pins H2 b) (W:Nat->Nat->List V->Hp->Prop) (w0:∃ m,W 0 m [] H2) (turn:∀ i m ys H,W i m ys H-> (J.stop i H/\ys.length<=sizeLine/\∀ p,H p=none->Q (.ref p) (upd H p (.lst ys)))\/ (J.go i H/\∀ x H',J.yld i H x H'->g x (inner mp O) H' fun O2 H2=>(O2.length=(inner mp O).length/\∀ (i:Nat) v,(inner mp O)[i]? = some (some v)->O2[i]? = some (some v))/\ ti O2 H2 fun b H3=>if b=true then te O2 H3 fun y H4=>ys.length<=sizeLine/\∃ m',m'<m/\W (i+1) m' (ys++[y]) H4 else ∃ m',m'<m/\W (i+1) m' ys H3)) (hRR:∀ acc C s',km X pins O C Q acc s'->RR acc C (.ok .next) s'): wpAny (model X.prog X.w) X.A (newList []) (fun acc s₃=>wpAny (model X.prog X.w) X.A (newFunctionEnv scope X.env.globals (z4o X.env scope.names []) [] X.env.qual none .none (some X.env)) (fun cenv s₄=> codeAny (model X.prog X.w) X.A (.compStart (.ListComp elt [⟨tg,iter,ifs,0⟩] scope pos) 0 (.ref it) acc {cenv with scope:=relabel scope X.env}) (RR acc cenv.locals) s₄) E s₃) E s₂:=by
 refine _L ?_;have hf2:H2 s₂.heap.objs.size=none:=I2.hok.fresh (_g _);have fA:z2G X pins H2 s₂.heap.objs.size:=I2.fpOk (_g _) hf2;generalize hacc:s₂.heap.objs.size=acc at hf2 fA ⊢;have I3:Inv X pins O H2 {s₂ with heap:=s₂.heap.push {cls:=.type "list",data:=.seq ([]:List Value).toArray}}:=I2.kept (t':=s₂.toks) fun b o e=>_d _ e;have ha3:(s₂.heap.push {cls:=.type "list",data:=.seq ([]:List Value).toArray}).get? acc=some (LCg.lst []):=by rw [<- hacc];exact _h _ rfl
 have sz3:(s₂.heap.push {cls:=.type "list",data:=.seq ([]:List Value).toArray}).objs.size=acc+1:=by rw [_al,hacc]
 have kp3:∀ b o,s₂.heap.get? b=some o->(s₂.heap.push {cls:=.type "list",data:=.seq ([]:List Value).toArray}).get? b=some o:=fun b o e=>_d _ e;show wpAny _ _ _ _ _ {s₂ with heap:=s₂.heap.push {cls:=.type "list",data:=.seq ([]:List Value).toArray}};generalize hs3:({s₂ with heap:=s₂.heap.push {cls:=.type "list",data:=.seq ([]:List Value).toArray}}:Shared)=s₃ at I3 ⊢;have ha3':s₃.heap.get? acc=some (LCg.lst []):=by rw [<- hs3];exact ha3
 have sz3':s₃.heap.objs.size=acc+1:=by rw [<- hs3];exact sz3
 have kp3':∀ b o,s₂.heap.get? b=some o->s₃.heap.get? b=some o:=by rw [<- hs3];exact kp3
 have flt:∀ b∈fp,b<acc:=fun b hb=>by
  obtain ⟨o,e,_⟩:=T.obj 0 _ st2 b hb;rw [<- hacc];exact _l e
 have fne:∀ b∈fp,b≠acc:=fun b hb=>_x (flt b hb);have tn3:tn 0 s₃.heap:=T.keep 0 _ _ st2 fun b hb o e=>kp3' b o e;refine z2E ?_;rw [xY];have hex:∀ b∈acc::fp,b<s₃.heap.objs.size/\H2 b=none/\b≠X.env.locals/\b∉X.fs/\(b∈X.ex\/X.s₀.heap.objs.size<=b)/\(∀ x c,X.env.cells.lookup x=some c->c≠b):=fun b hb=>by
  rcases _z.mp hb with z | hb
  ·subst z;exact ⟨by rw [sz3'];exact _aT _,hf2,fA.2.1,fA.2.2.1,fA.2.2.2.1,fA.2.2.2.2.1⟩
  ·have q:=f2 b hb;exact ⟨by rw [sz3'];exact _aj (flt b hb),q.1,q.2.1,q.2.2.1,q.2.2.2.1,q.2.2.2.2.1⟩
 have I4:=z3G (N':=N') (mp:=mp) (ex:=acc::fp) (s1:={s₃ with heap:=pushCells (s₃.heap.push {cls:=.type "dict",data:=.dict #[]}) scope.names}) I3 hkd hnm hfr hmp hex rfl rfl rfl;have kp4:∀ b o,s₃.heap.get? b=some o->(pushCells (s₃.heap.push {cls:=.type "dict",data:=.dict #[]}) scope.names).get? b=some o:=fun b o e=>_ce _ _ b o (_d _ e);generalize hs4:({s₃ with heap:=pushCells (s₃.heap.push {cls:=.type "dict",data:=.dict #[]}) scope.names}:Shared)=s₄ at I4 ⊢;have ha4:s₄.heap.get? acc=some (LCg.lst []):=by rw [<- hs4];exact kp4 _ _ ha3'
 have tn4:tn 0 s₄.heap:=T.keep 0 _ _ tn3 fun b hb o e=>by rw [<- hs4];exact kp4 b o e
 have Cne:acc≠s₃.heap.objs.size:=by rw [sz3'];exact _x (_aT _)
 have celln:∀ b∈acc::fp,∀ x c,(z7L X scope s₃.heap.objs.size).cells.lookup x=some c->c≠b:=fun b hb=>(I4.ok.exf b hb).2;have stat:∀ {H':Hp} {o:Obj},(∀ b∈fp,H' b=none)->∀ b∈fp,z2G (zk X N' scope (acc::fp) s₃ H2) [(acc,o)] H' b:=fun {H' o} hn b hb=> ⟨hn b hb,_x (by show b<s₃.heap.objs.size;rw [sz3'];exact _aj (flt b hb)),fun hf=>I4.ok.exfs b (_y _ hb) hf,.inl (_y _ hb),celln b (_y _ hb),fun p hp=>by
   have e:p=(acc,o):=by simpa [zk] using hp
   rw [e];exact _a5 (fne b hb)⟩;have pinA:∀ {O':St} {H':Hp} {s':Shared} {its:List Value},Inv (zk X N' scope (acc::fp) s₃ H2) [] O' H' s'->H' acc=none->s'.heap.get? acc=some (LCg.lst its)->Inv (zk X N' scope (acc::fp) s₃ H2) [(acc,LCg.lst its)] O' H' s':=fun {O' H' s' its} J' n' e'=> J'.pins_of fun p hp=>by
   have e:p=(acc,LCg.lst its):=by simpa using hp
   subst e;refine ⟨e',n',Cne,fun hf=>I4.ok.exfs acc _M hf,fun v z=>?_⟩;have z':Data.seq _ _=Data.cell v:=z;cases z'
 obtain ⟨m0,w0⟩:=w0;have loop:codeAny (model X.prog X.w) X.A (.compLoop (.ListComp elt [⟨tg,iter,ifs,0⟩] scope pos) 0 (.ref it) (.ref acc) (z7L X scope s₃.heap.objs.size)) (RR (.ref acc) s₃.heap.objs.size) s₄:=by
  refine z5s (fun n s'=>∃ i ys its H',Inv (zk X N' scope (acc::fp) s₃ H2) [] (inner mp O) H' s'/\tn i s'.heap/\(∀ b∈fp,H' b=none)/\H' acc=none/\s'.heap.get? acc=some (LCg.lst its)/\ym ys its/\W i n ys H') ?_ m0 ⟨0,[],[],H2,I4,tn4,fun b hb=>(f2 b hb).1,hf2,ha4,.nil,w0⟩;rintro n s5 ⟨i,ys,its,H5,I5,tn5,n5,na5,ea5,rv5,w5⟩;have I5':=pinA I5 na5 ea5;rcases turn i n ys H5 w5 with ⟨stop,hz,q⟩ | ⟨go,step⟩
  ·refine _t (T.done (zk X N' scope (acc::fp) s₃ H2) rfl rfl rfl hc i _ s5 _ H5 (fun _ _=>False) I5' (stat n5) tn5 stop) (fun r s6 ⟨hr,I6⟩=>?_) fun _ _ z=>z;subst hr;have ea6:=(I6.pin (acc,LCg.lst its) (by simp)).1;have un:Un (frs X.stack) (acc::fp) H2 H5 s₃.heap s6.heap:=I6.base;have I7:Inv X pins O H5 s6:=I3.call' (s':=s6) (I6.os) un I6.hok I6.bare fun b hb=>by
    rcases _z.mp hb with z | hb;·subst z;exact ⟨fA.2.2.2.1,fA.2.1,fA.2.2.2.2.1,fA.2.2.2.2.2⟩
    ·exact ⟨(f2 b hb).2.2.2.1,(f2 b hb).2.1,(f2 b hb).2.2.2.2.1,(f2 b hb).2.2.2.2.2⟩
   have C7:z2G X pins H5 s₃.heap.objs.size:=I3.fpOk (_g _) I6.free;refine hRR _ _ s6 ⟨.ref acc,upd H5 acc (.lst ys),I7.track ⟨na5,fA.2⟩ ?_,rfl,q acc na5,?_,?_,C7.2⟩;·exact ⟨hz,its,_,rv5,ea6⟩
   ·obtain ⟨m,hm,_⟩:=I6.loc;exact ⟨m,hm⟩
   ·rw [zx (_a5 Cne)];exact I6.free
  ·refine _t (T.item (zk X N' scope (acc::fp) s₃ H2) rfl rfl rfl hc i _ s5 _ H5 (fun _ _=>False) I5' (stat n5) tn5 go) (fun r s6 ⟨u,hr,h6⟩=>?_) fun _ _ z=>z;subst hr;refine _t h6 (fun _ s7 ⟨x,H7,I7,r7,y7,tn7,n7⟩=>?_) fun _ _ z=>z;have I7':=I7.pinned (stat n7) (T.obj _ _ tn7);refine _t (hg _ _ _ _ s7 (inner mp O) H7 x u _ I7' r7 (step x H7 y7)) (fun _ s8 ⟨O8,H8,I8,⟨kl,kv⟩,q8⟩=>?_) fun _ _ z=>z;refine _t (ht _ _ _ _ s8 O8 H8 _ I8 q8) (fun b s9 ⟨H9,I9,q9⟩=>?_) fun _ _ z=>z;have pinB:∀ {O':St} {H':Hp} {s':Shared},Inv (zk X N' scope (acc::fp) s₃ H2) ([(acc,LCg.lst its)]++z3C fp s7.heap) O' H' s'->(∀ b∈fp,H' b=none)/\H' acc=none/\s'.heap.get? acc=some (LCg.lst its)/\tn (i+1) s'.heap/\∀ b∈fp,∀ o,s7.heap.get? b=some o->s'.heap.get? b=some o:=fun {O' H' s'} J'=>by
    have z:=J'.pin (acc,LCg.lst its) (by simp [zk]);have zz:∀ b∈fp,∀ o,s7.heap.get? b=some o->s'.heap.get? b=some o/\H' b=none:=fun b hb o e=>by
     have y:=J'.pin (b,o) (_p _ (_p _ (wC hb e)));exact ⟨y.1,y.2.1⟩
    refine ⟨fun b hb=>?_,z.2.1,z.1,T.keep _ _ _ tn7 fun b hb o e=>(zz b hb o e).1,fun b hb o e=>(zz b hb o e).1⟩;obtain ⟨o,e,_⟩:=T.obj _ _ tn7 b hb;exact (zz b hb o e).2
   cases b with
   | false=>
    rw [_q (by decide)] at q9 ⊢;obtain ⟨m',lt,w9⟩:=q9;obtain ⟨z1,z2,z3,z4,_⟩:=pinB I9;exact ⟨m',lt,i+1,ys,its,H9,(I9.pins_of (pins':=[]) (fun p hp=>absurd hp (by simp))).weak kl.symm kv,z4,z1,z2,z3,rv5,w9⟩ | true=>
    rw [_f rfl] at q9 ⊢;refine _t (he _ _ _ _ s9 O8 H9 _ I9 q9) (fun yv s10 ⟨y,H10,I10,r10,hz,m',lt,w10⟩=>?_) fun _ _ z=>z;obtain ⟨z1,z2,z3,z4,_⟩:=pinB I10;have zl:its.toArray.size<=sizeLine:=by rw [_j,<- rv5.length];exact hz
    refine append_at (hsz:=zl) z3 fun h11 sb ea11=>?_;have I10':=(I10.pins_of (pins':=[]) (fun p hp=>absurd hp (by simp))).weak kl.symm kv;have I11:Inv (zk X N' scope (acc::fp) s₃ H2) [] (inner mp O) H10 {s10 with heap:=h11}:=I10'.turned (t':=s10.toks) (fun b o hb e=>(sb.2 b hb).trans e) z2 Cne (.inl _M) (celln acc _M) (fun p hp=>absurd hp (by simp [zk]));exact ⟨m',lt,i+1,ys++[y],its++[yv],H10,I11,T.keep _ _ _ z4 (fun b hb o e=>(sb.2 b (fne b hb)).trans e),z1,z2,ea11.trans (_aC some (LCg.lst_snoc its yv)),rv5.append (.cons r10 .nil),w10⟩
 exact codeAny_compStart_list loop (T.self _ 0 _ _ _ tn4 loop)
section
variable {X:Cx}{tg iter elt:Expr}{ifs:List Expr}{scope:Scope}{pos spos py:Pos}{wi:TI}{g:TG}{ti:TT}{te:TE}{N':List Str}{mp:List (Option Nat)}
theorem qk{pins:List (Addr×Obj)}{O:St}{H:Hp}{s:Shared}{h':Heap}{C:Addr}(I:Inv X pins O H s)(f:z2G X pins H C)(sb:Heap.SameBut C s.heap h'):Inv X pins O H {s with heap:=h'}:= I.turned (t':=s.toks) (fun b o hb e=>(sb.2 b hb).trans e) f.1 f.2.1 f.2.2.2.1 f.2.2.2.2.1 f.2.2.2.2.2
theorem zfF (N':List Str) (mp:List (Option Nat)) (hc:X.calm=true) (hi:PI X tg iter wi) (hg:∀ ex s H,PG (zk X N' scope ex s H) tg g) (ht:∀ ex s H,z7X (zk X N' scope ex s H) ifs ti) (he:∀ ex s H,PE (zk X N' scope ex s H) elt te) (hkd:scope.kind=.function) (hnm:∀ y∈scope.names,scope.names.lookup y.1=some y.2) (hfr:∀ y∈scope.names,y.2=.free->X.env.kindOf y.1=some .cell\/X.env.kindOf y.1=some .free) (hmp:z1F X.N scope.names N' mp=true) (hs:∀ x,foldedSetIterable iter X.env x=pure x:=by intro _;rfl):PE X (.ListComp elt [⟨tg,iter,ifs,0⟩] scope pos) (zdF wi mp g ti te):=by
 intro pins s O H Q I h;rw [eval_ListComp];refine _ba (use:=none) rfl hs (vk fun y hy hf=>I.ok.has _ (hfr y hy hf)) hkd (fun y hy hl=>by rw [hnm y hy,hl]) (thn (hi pins s O H _ I h) fun xv s₁ h₁=>thn h₁ fun itv s₂ h₂=>?_);obtain ⟨it,fp,tn,J,H2,e,I2,T,st2,f2,W,w0,turn⟩:=h₂;subst e;refine z04 (N':=N') (mp:=mp) (O:=O) (pins:=pins) (Q:=Q) (RR:=fun acc C=>compPost (model X.prog X.w) X.A X.xe none (EP X pins O Q) acc C) hc hg ht he hkd hnm hfr hmp I2 T st2 f2 W w0 turn ?_;rintro acc C s' ⟨v,Hf,I3,r,q,⟨m,hm⟩,f⟩;exact ⟨m,hm,fun h' sb=>⟨v,Hf,qk I3 f sb,r,q⟩⟩
theorem z9b {i:Nat} {y:Str} (N':List Str) (mp:List (Option Nat)) (hN:X.N.Nodup) (hy:X.N[i]? = some y) (hyl:Loc X.env.scope y) (hc:X.calm=true) (hi:PI X tg iter wi) (hg:∀ ex s H,PG (zk X N' scope ex s H) tg g) (ht:∀ ex s H,z7X (zk X N' scope ex s H) ifs ti) (he:∀ ex s H,PE (zk X N' scope ex s H) elt te) (hkd:scope.kind=.function) (hnm:∀ y∈scope.names,scope.names.lookup y.1=some y.2) (hfr:∀ y∈scope.names,y.2=.free->X.env.kindOf y.1=some .cell\/X.env.kindOf y.1=some .free) (hmp:z1F X.N scope.names N' mp=true) (hs:∀ x,foldedSetIterable iter X.env x=pure x:=by intro _;rfl) (hsw:swapsWith (.ListComp elt [⟨tg,iter,ifs,0⟩] scope pos) (some (.Name y py)) spos.line X.env=pure true:=by rfl) (hf:X.fn y=true\/X.env.scope.names.lookup y=some .local:=by first | exact .inl rfl | exact .inr rfl | assumption): PS X (.Assign [.Name y py] (.ListComp elt [⟨tg,iter,ifs,0⟩] scope pos) spos) (zjG (zdF wi mp g ti te) (z0U i)):=by
 intro pins s O H D I h;rw [_bT _ _ _ _ hsw];refine _a (_aJ (_a ?_));show wpAny _ X.A (do let _ <- comprehension (.ListComp elt [⟨tg,iter,ifs,0⟩] scope pos) scope X.env _ (newList []) false (eval iter X.env) (some (assign (.Name y py) X.env))) _ _ s;refine _a (_t (_ba (use:=some (assign (.Name y py) X.env)) (Q:=fun _ s'=>SP X pins D .next s') rfl hs (vk fun y hy hf=>I.ok.has _ (hfr y hy hf)) hkd (fun y hy hl=>by rw [hnm y hy,hl]) (thn (hi pins s O H _ I h) fun xv s₁ h₁=>thn h₁ fun itv s₂ h₂=>?_)) (fun _ s' hq=>_c (_c hq)) fun _ _ e=>e);obtain ⟨it,fp,tn,J,H2,e,I2,T,st2,f2,W,w0,turn⟩:=h₂;subst e;refine z04 (N':=N') (mp:=mp) (O:=O) (pins:=pins) (Q:=fun v H'=>D.nx (O.set i (some v)) H') (RR:=fun acc C=>compPost (model X.prog X.w) X.A X.xe (some (assign (.Name y py) X.env)) (fun _ s'=>SP X pins D .next s') acc C) hc hg ht he hkd hnm hfr hmp I2 T st2 f2 W w0 turn ?_;rintro acc C s' ⟨v,Hf,I3,r,q,⟨m,hm⟩,f⟩;refine _bK (kH I3 hN hy hyl r (fun s'' I4 ⟨a,sb,ha⟩=>?_) hf);have hC:C≠a:=by
  rcases ha with z | z;·rw [z];exact f.2.1
  ·exact _a5 (f.2.2.2.2.1 y a z)
 exact ⟨m,hm.sameBut sb hC,fun h' sb'=>⟨_,Hf,qk I4 f sb',q⟩⟩
end
section
variable {κ:Type} [DecidableEq κ]
def va(kvs:List (κ×V))(k:κ):Option V:=(kvs.find? fun kv=>decide (kv.1=k)).map (·.2)
def jq(kvs:List (κ×V))(k:κ)(v:V):List (κ×V):= if (kvs.any fun kv=>decide (kv.1=k))=true then kvs.map (fun kv=>if kv.1=k then (kv.1,v) else kv) else kvs++[(k,v)]
theorem wg{p:κ×V}{r:List (κ×V)}{k:κ}(e:p.1=k):va (p::r) k=some p.2:=by simp [va,_a3,e]
theorem wd{p:κ×V}{r:List (κ×V)}{k:κ}(e:¬ p.1=k):va (p::r) k=va r k:=by simp [va,_a3,e]
theorem qZ(k:κ):∀ kvs:List (κ×V),(kvs.any fun kv=>decide (kv.1=k))=(va kvs k).isSome
 | []=>rfl | p::r=>by
  rw [_by];by_cases e:p.1=k;·simp only [wg e,_cv e,Bool.true_or,Option.isSome_some]
  ·rw [wd e,_a0 e,Bool.false_or];exact qZ k r
theorem z8h(k j:κ)(y:V):∀ kvs:List (κ×V),va (kvs.map fun kv=>if kv.1=k then (kv.1,y) else kv) j=(va kvs j).map fun x=>if j=k then y else x
 | []=>rfl | p::r=>by
  have ih:=z8h k j y r;rw [_s];by_cases h:p.1=k
  ·rw [_f h];by_cases e:p.1=j;·rw [wg (p:=(p.1,y)) e,wg e,_S,_f (e.symm.trans h)]
   ·rw [wd (p:=(p.1,y)) e,wd e,ih]
  ·rw [_q h];by_cases e:p.1=j;·rw [wg (p:=p) e,wg e,_S,_q (fun z=>h (e.trans z))]
   ·rw [wd (p:=p) e,wd e,ih]
theorem z65(k j:κ)(y:V):∀ kvs:List (κ×V),va kvs k=none->va (kvs++[(k,y)]) j=if j=k then some y else va kvs j
 | [],_=>by
  by_cases e:k=j;·rw [_f e.symm];exact wg (p:=(k,y)) e
  ·rw [_q (fun z=>e z.symm)];exact wd (p:=(k,y)) e | p::r,hn=>by
  rw [_bs];have hk:¬ p.1=k:=fun z=>by rw [wg z] at hn;cases hn
  rw [wd hk] at hn;have ih:=z65 k j y r hn;by_cases e:p.1=j;·rw [wg e,wg e,_q (fun z=>hk (e.trans z))]
  ·rw [wd e,wd e,ih]
theorem z45(kvs:List (κ×V))(k j:κ)(y:V):va (jq kvs k y) j=if j=k then some y else va kvs j:=by
 unfold jq;by_cases a:(kvs.any fun kv=>decide (kv.1=k))=true
 ·rw [_f a,z8h];rw [qZ] at a;by_cases e:j=k
  ·obtain ⟨x,hx⟩:=_ai.mp a;rw [_f e,e,hx,_S,_f rfl]
  ·rw [_q e];cases va kvs j with
   | none=>rfl | some x=>rw [_S,_q e]
 ·rw [_q a];refine z65 k j y kvs ?_;rw [qZ] at a;cases q:va kvs k with
  | none=>rfl | some x=>rw [q] at a;exact (a rfl).elim
theorem z2D(kvs:List (κ×V))(k:κ)(v:V):(jq kvs k v).length<=kvs.length+1:=by
 unfold jq;split;·rw [_B];omega
 ·rw [_X,_i,_u];omega
theorem z9t.isSome_eq{o:Option V}{u:Option Value}(r:z9t o u):o.isSome=u.isSome:=by cases o with
 | none=>cases u with
  | none=>rfl | some _=>exact (show False from r).elim
 | some _=>cases u with
  | none=>exact (show False from r).elim | some _=>rfl
theorem z9t.getD{o:Option V}{u:Option Value}{d:V}{d':Value}(r:z9t o u)(rd:yu d d'):yu (o.getD d) (u.getD d'):=by cases o with
 | none=>cases u with
  | none=>exact rd | some _=>exact (show False from r).elim
 | some _=>cases u with
  | none=>exact (show False from r).elim | some _=>exact r
theorem KV.val{kvs:List (κ×V)}{vs:List (κ×Value)}(r:KV kvs vs)(k:κ):z9t (va kvs k) (valueAt vs k):=by
 unfold KV at r;induction r with
 | nil=>exact True.intro | @cons p q ps qs h t ih=>
  obtain ⟨h1,h2⟩:=h;by_cases e:p.1=k
  ·have e':q.1=k:=h1.symm.trans e;have b:valueAt (q::qs) k=some q.2:=by simp [valueAt,_a3,e']
   rw [wg e,b];exact h2
  ·have e':¬ q.1=k:=fun z=>e (h1.trans z);have b:valueAt (q::qs) k=valueAt qs k:=by simp [valueAt,_a3,e']
   rw [wd e,b];exact ih
theorem KV.any{kvs:List (κ×V)}{vs:List (κ×Value)}(r:KV kvs vs)(k:κ):(kvs.any fun kv=>decide (kv.1=k))=vs.any fun kv=>decide (kv.1=k):=by
 unfold KV at r;induction r with
 | nil=>rfl | cons h t ih=>rw [_by,_by,ih,h.1]
theorem KV.repl{kvs:List (κ×V)}{vs:List (κ×Value)}(r:KV kvs vs)(k:κ){y:V}{u:Value}(ry:yu y u): KV (kvs.map fun kv=>if kv.1=k then (kv.1,y) else kv) (vs.map fun kv=>if kv.1=k then (kv.1,u) else kv):=by
 unfold KV at r ⊢;induction r with
 | nil=>exact .nil | @cons p q ps qs h t ih=>
  rw [_s,_s];refine .cons ?_ ih;obtain ⟨h1,h2⟩:=h;by_cases e:p.1=k;·rw [_f e,_f (h1.symm.trans e)];exact ⟨h1,ry⟩
  ·rw [_q e,_q (fun z=>e (h1.trans z))];exact ⟨h1,h2⟩
theorem KV.put{kvs:List (κ×V)}{vs:List (κ×Value)}(r:KV kvs vs)(k:κ){y:V}{u:Value}(ry:yu y u):KV (jq kvs k y) (stored vs k u):=by
 unfold jq stored;rw [r.any k];by_cases e:(vs.any fun kv=>decide (kv.1=k))=true;·rw [_f e,_f e];exact r.repl k ry
 ·rw [_q e,_q e];exact Paired.snoc r ⟨rfl,ry⟩
theorem KV.length{kvs:List (κ×V)}{vs:List (κ×Value)}(r:KV kvs vs):kvs.length=vs.length:=_b6 r
end
theorem z9s{P:Program}{w:World}{k:Key}{u:Value}(r:yu (kV k) u):(zG P w).is k u=true:=by cases k with
 | inl i=>obtain ⟨t,e⟩:=(show ∃ t,u=Value.int i t from r);subst e;exact z6I P w i t | inr x=>obtain ⟨t,e⟩:=(show ∃ t,u=Value.str x t from r);subst e;exact z1W P w x t
theorem z5n{P:Program}{w:World}:∀ {ks:List Key}{us:List Value},ym (ks.map kV) us->ItemsAre (zG P w) ks us
 | [],_,r=>by rw [_cp] at r;cases r;exact .nil | k::ks,_,r=>by
  rw [_s] at r;cases r with | cons h t=>exact .cons (z9s h) (z5n t)
abbrev KT(H:Hp):List (List Key×V)->List (List Key×Addr×Value)->Prop:=Paired fun p q=>p.1=q.1/\H q.2.1=some (.tup (p.1.map kV))/\yu p.2 q.2.2
theorem KT.val{H:Hp}{kvs:List (List Key×V)}{xs:List (List Key×Addr×Value)}(r:KT H kvs xs)(k:List Key):z9t (va kvs k) ((atKey xs k).map (·.2)):=by induction r with
 | nil=>exact True.intro | @cons p q ps qs h t ih=>
  obtain ⟨h1,_,h2⟩:=h;by_cases e:p.1=k
  ·have e':q.1=k:=h1.symm.trans e;have b:atKey (q::qs) k=some q.2:=by simp [atKey,_a3,e']
   rw [wg e,b];exact h2
  ·have e':¬ q.1=k:=fun z=>e (h1.trans z);have b:atKey (q::qs) k=atKey qs k:=by simp [atKey,_a3,e']
   rw [wd e,b];exact ih
theorem KT.repl{H:Hp}{kvs:List (List Key×V)}{xs:List (List Key×Addr×Value)}(r:KT H kvs xs)(k:List Key){y:V}{u:Value}(ry:yu y u): KT H (kvs.map fun kv=>if kv.1=k then (kv.1,y) else kv) (xs.map (putAt k u)):=by induction r with
 | nil=>exact .nil | @cons p q ps qs h t ih=>
  rw [_s,_s];refine .cons ?_ ih;obtain ⟨h1,h2,h3⟩:=h;unfold putAt;by_cases e:p.1=k;·rw [_f e,_f (h1.symm.trans e)];exact ⟨h1,h2,ry⟩
  ·rw [_q e,_q (fun z=>e (h1.trans z))];exact ⟨h1,h2,h3⟩
theorem KT.put{H:Hp}{kvs:List (List Key×V)}{xs:List (List Key×Addr×Value)}(r:KT H kvs xs)(k:List Key){b:Addr}{y:V}{u:Value}(hb:H b=some (.tup (k.map kV)))(ry:yu y u): KT H (jq kvs k y) (storedH xs k b u):=by
 have e:(kvs.any fun kv=>decide (kv.1=k))=(atKey xs k).isSome:=by rw [qZ,(r.val k).isSome_eq,_cN]
 unfold jq storedH;rw [e];by_cases q:(atKey xs k).isSome=true;·rw [_f q,_f q];exact r.repl k ry
 ·rw [_q q,_q q];exact Paired.snoc r ⟨rfl,hb,ry⟩
theorem KT.keeps{H H':Hp}{kvs:List (List Key×V)}{xs:List (List Key×Addr×Value)}(r:KT H kvs xs)(ht:∀ b ys,H b=some (.tup ys)->H' b=some (.tup ys)):KT H' kvs xs:= Paired.mapP r fun _ _ z=>⟨z.1,ht _ _ z.2.1,z.2.2⟩
section
variable {P:Program}{w:World}{H:Hp}{h:Heap}{a:Addr}
theorem zin{u:HO}(ok:HOk P w H h)(e:Rd H a u):yj P w H h a u:=e.ok ok
theorem z7M{kvs:List (Key×V)}(ok:HOk P w H h)(e:Rd H a (.dK kvs)):kvs.length<=sizeLine/\(a==sysModules)=false/\∃ vs,KV kvs vs/\h.DictOf (zG P w) a vs:= show yj P w H h a (.dK kvs) from zin ok e
theorem zkj{kvs:List (Key×V)}(ok:HOk P w H h)(e:H a=some (.dK kvs)):kvs.length<=sizeLine/\(a==sysModules)=false/\∃ vs,KV kvs vs/\h.DictOf (zG P w) a vs:=z7M ok (.inl e)
theorem z3y{ks:List Key}(ok:HOk P w H h)(e:H a=some (.tup (ks.map kV))):(tupleKind (zG P w)).is h ks a:=by
 obtain ⟨_,its,r,o,h1,h2,_,n,h3⟩:=(show yj P w H h a (.tup (ks.map kV)) from ok a _ e);exact ⟨o,its.toArray,n,h1,h2,h3,by simpa using z5n r⟩
theorem z6p{kvs:List (List Key×V)}(ok:HOk P w H h)(e:Rd H a (.dT kvs)):kvs.length<=sizeLine/\(a==sysModules)=false/\ ∃ xs,KT H kvs xs/\h.DictOfH (tupleKind (zG P w)) a xs:=by
 obtain ⟨z,y,xs,r,o,es,ep,h1,h2,h3,h4,h5⟩:=(show yj P w H h a (.dT kvs) from zin ok e);refine ⟨z,y,xs,r,o,es,ep,h1,h2,h3,h4,fun x hx=>?_,h5⟩;have all:∀ {l:List (List Key×V)}{m:List (List Key×Addr×Value)},KT H l m->∀ x∈m,(tupleKind (zG P w)).is h x.1 x.2.1:=by
  intro l m q;induction q with
  | nil=>intro x hx;exact nomatch hx | @cons p q ps qs hq t ih=>
   intro x hx;rcases _z.mp hx with e | hx
   ·subst e;exact z3y ok (by rw [<- hq.1];exact hq.2.1)
   ·exact ih x hx
 exact all r x hx
theorem zjy{kvs:List (List Key×V)}(ok:HOk P w H h)(e:H a=some (.dT kvs)):kvs.length<=sizeLine/\(a==sysModules)=false/\ ∃ xs,KT H kvs xs/\h.DictOfH (tupleKind (zG P w)) a xs:=z6p ok (.inl e)
end
def zcu(H:Hp)(a:Addr)(y:V)(r:Option V):Prop:= (∃ kvs k,Rd H a (.dK kvs)/\y=kV k/\r=va kvs k)\/∃ kvs k b,Rd H a (.dT kvs)/\y=.ref b/\H b=some (.tup (k.map kV))/\r=va kvs k
def zj8(H:Hp)(a:Addr)(y v:V)(H':Hp):Prop:= (∃ kvs k,H a=some (.dK kvs)/\y=kV k/\kvs.length<sizeLine/\H'=upd H a (.dK (jq kvs k v)))\/ ∃ kvs k b,H a=some (.dT kvs)/\y=.ref b/\H b=some (.tup (k.map kV))/\kvs.length<sizeLine/\H'=upd H a (.dT (jq kvs k v))
theorem zj8.t{H:Hp}{a b:Addr}{kvs:List (List Key×V)}{k:List Key}{v:V}(e:H a=some (.dT kvs))(eb:H b=some (.tup (k.map kV)))(hl:kvs.length<sizeLine): zj8 H a (.ref b) v (upd H a (.dT (jq kvs k v))):=.inr ⟨kvs,k,b,e,rfl,eb,hl,rfl⟩
section
variable {X:Cx}{pins:List (Addr×Obj)}{O:St}{H:Hp}{s:Shared}{a:Addr}{y v:V}{u r:Value}{o:Option V}{A:Around}{E:Value->Shared->Prop}
theorem Inv.big(I:Inv X pins O H s):sysModules<s.heap.objs.size:=by
 have h:mainGlobals<s.heap.objs.size:=(I.mod.glob.keeps I.bk).lt;exact Nat.lt_trans (by decide) h
theorem zaM {Q:Value->Shared->Prop} (hu:A.units+1<cLine) (I:Inv X pins O H s) (g:zcu H a y (some v)) (ry:yu y u) (h:∀ w' s',Inv X pins O H s'->yu v w'->Q w' s'): wpAny (model X.prog X.w) A (getItem (.ref a) u) Q E s:=by
 rcases g with ⟨kvs,k,e,ey,l⟩ | ⟨kvs,k,b,e,ey,eb,l⟩
 ·subst ey;obtain ⟨z,hd,vs,rel,dd⟩:=z7M I.hok e;obtain ⟨w',hw,rw'⟩:=z9t.some_of (v:=v) (o:=valueAt vs k) (by rw [l];exact rel.val k);exact wpAny_getItem_of (z9s ry) dd.mapOf hw (h w' _ (I.tok _) rw')
 ·subst ey;cases (show u=Value.ref b from ry);obtain ⟨z,hd,xs,rel,dd⟩:=z6p I.hok e;obtain ⟨w',hw,rw'⟩:=z9t.some_of (v:=v) (o:=(atKey xs k).map (·.2)) (by rw [l];exact rel.val k);obtain ⟨p,hp,hp2⟩:=_v.mp hw;refine wpAny_getItem_heap (_bh hu) (z3y I.hok eb) dd hp ?_;rw [hp2];exact h w' _ (I.tok _) rw'
theorem zlZ{Q:Value->Shared->Prop}(hu:A.units+1<cLine)(I:Inv X pins O H s)(g:zcu H a y o)(ry:yu y u)(h:∀ s',Inv X pins O H s'->Q (.bool o.isSome) s'): wpAny (model X.prog X.w) A (compareOp .In u (.ref a)) Q E s:=by
 rcases g with ⟨kvs,k,e,ey,l⟩ | ⟨kvs,k,b,e,ey,eb,l⟩
 ·subst ey;obtain ⟨z,hd,vs,rel,dd⟩:=z7M I.hok e;refine wpAny_in_of (z9s ry) hd dd.mapOf ?_;rw [<- (rel.val k).isSome_eq,<- l];exact h _ (I.tok _)
 ·subst ey;cases (show u=Value.ref b from ry);obtain ⟨z,hd,xs,rel,dd⟩:=z6p I.hok e;refine wpAny_in_heap (_bh hu) (z3y I.hok eb) hd dd ?_;have q:=(rel.val k).isSome_eq;rw [_cN] at q;rw [<- q,<- l];exact h _ (I.tok _)
theorem zgi{Q:Value->Shared->Prop}(hu:A.units+1<cLine)(I:Inv X pins O H s)(g:zcu H a y o)(ry:yu y u)(h:∀ s',Inv X pins O H s'->Q (.bool (!o.isSome)) s'): wpAny (model X.prog X.w) A (compareOp .NotIn u (.ref a)) Q E s:=by
 rcases g with ⟨kvs,k,e,ey,l⟩ | ⟨kvs,k,b,e,ey,eb,l⟩
 ·subst ey;obtain ⟨z,hd,vs,rel,dd⟩:=z7M I.hok e;refine wpAny_notIn_of (z9s ry) hd dd.mapOf ?_;rw [<- (rel.val k).isSome_eq,<- l];exact h _ (I.tok _)
 ·subst ey;cases (show u=Value.ref b from ry);obtain ⟨z,hd,xs,rel,dd⟩:=z6p I.hok e;refine wpAny_notIn_heap (_bh hu) (z3y I.hok eb) hd dd ?_;have q:=(rel.val k).isSome_eq;rw [_cN] at q;rw [<- q,<- l];exact h _ (I.tok _)
theorem z9L {h':Heap} {t':Nat} {ob:HO} (I:Inv X pins O H s) (mu:Mut (H a)) (hs:Heap.SameBut a s.heap h') (he:∃ q,h'.get? a=some q) (new:yj X.prog X.w (upd H a ob) h' a ob): Inv X pins O (upd H a ob) {s with heap:=h',toks:=t'}:= I.write (x:=a) (e:=a) mu (.inl rfl) (fun b q hb z=>(hs.2 b hb).trans z) he new
theorem zh3{P:Program}{w:World}{H':Hp}{h':Heap}{kvs:List (Key×V)}{vs:List (Key×Value)}(z:kvs.length<=sizeLine)(hd:(a==sysModules)=false)(rel:KV kvs vs)(dd:h'.DictOf (zG P w) a vs): yj P w H' h' a (.dK kvs):=⟨z,hd,vs,rel,dd⟩
theorem zan{H':Hp}{Q:Unit->Shared->Prop}(hu:A.units+1<cLine)(I:Inv X pins O H s)(g:zj8 H a y v H')(ry:yu y u)(rv:yu v r)(h:∀ s',Inv X pins O H' s'->Q () s'): wpAny (model X.prog X.w) A (setItem (.ref a) u r) Q E s:=by
 rcases g with ⟨kvs,k,e,ey,l,eH⟩ | ⟨kvs,k,b,e,ey,eb,l,eH⟩
 ·subst ey eH;obtain ⟨z,hd,vs,rel,dd⟩:=zkj I.hok e;have hz:vs.length<=sizeLine:=by rw [<- rel.length];exact z
  have hl:(jq kvs k v).length<=sizeLine:=by have:=z2D kvs k v;omega
  refine wpAny_setItem_pairs (hsz:=hz) (z9s ry) dd fun h' dd' hs=>h _ ?_;have he:∃ q,h'.get? a=some q:=let ⟨q,_,_,hq,_⟩:=dd';⟨q,hq⟩;exact z9L I (by rw [e];exact True.intro) hs he (zh3 hl hd (rel.put k rv) dd')
 ·subst ey eH;cases (show u=Value.ref b from ry);obtain ⟨z,hd,xs,rel,dd⟩:=zjy I.hok e;have hz:xs.length<=sizeLine:=by rw [<- _b6 rel];exact z
  have hl:(jq kvs k v).length<=sizeLine:=by have:=z2D kvs k v;omega
  refine wpAny_setItem_heap (hsz:=hz) (_bh hu) (z3y I.hok eb) dd fun h' dd' hs=>h _ ?_;obtain ⟨q,es,ep,hq,h2,h3,h4,_,h5⟩:=dd';refine z9L I (by rw [e];exact True.intro) hs ⟨q,hq⟩ ⟨hl,hd,_,(rel.put k eb rv).keeps fun c ys ec=>?_,q,es,ep,hq,h2,h3,h4,h5⟩;rw [zx (zju ec e (fun z=>nomatch z))];exact ec
end
def zkd(i:Expr):Prop:=∀ ov iv,subscripted i false ov iv=operate [ov,iv] (getItem ov iv)
theorem zgs{prog:Program}{w:World}{A:Around}{E:Value->Shared->Prop}{s:Shared}{env:Env}{value slice:Expr}{pos:Pos}{T id:String}{Q:Value->Shared->Prop} (hl:typeLookup (.type T) "__getitem__"=pure (some (.builtin id)))(hs:zkd slice) (h:wpAny (model prog w) A (eval value env) (fun o s₁=>wpAny (model prog w) A (eval slice env) (fun i s₂=>s₂.TypeIs o T/\wpAny (model prog w) A (getItem o i) Q E s₂) E s₁) E s): wpAny (model prog w) A (eval (.Subscript value slice pos) env) Q E s:=by
 refine Subscript_ (_t h (fun o s₁ h₁=>_t h₁ (fun i s₂ h₂=>?_) fun _ _ x=>x) fun _ _ x=>x);obtain ⟨hT,h₂⟩:=h₂;unfold subscriptTail;refine _a ?_;rw [getitemInPython_of_ne hT.not_modules];refine _a (wpAny_specialOf hT hl ?_);have fin:wpAny (model prog w) A (subscripted slice false o i) (fun r s₃=>wpAny (model prog w) A (letTemporaryGo value o r >>= fun _=>pure r) Q E s₃) E s₂:=by
  rw [hs o i];exact wpAny_operating (_t h₂ (fun r s₃ h₃=>_a (wpAny_letTemporaryGo (_c h₃))) fun _ _ x=>x)
 first
  | exact _c (_a fin) | exact _a (_c (_a fin)) | exact _a fin
theorem z7h{X:Cx}{pins:List (Addr×Obj)}{O:St}{H:Hp}{s:Shared}{a:Addr}{y:V}{o:Option V}(I:Inv X pins O H s)(g:zcu H a y o):s.TypeIs (.ref a) "dict":=by
 rcases g with ⟨kvs,k,e,_,_⟩ | ⟨kvs,k,b,e,_,_,_⟩
 ·obtain ⟨_,_,vs,_,dd⟩:=z7M I.hok e;exact dd.typeIs
 ·obtain ⟨_,_,xs,_,dd⟩:=z6p I.hok e;exact dd.typeIs
def zjK(td ty:TE):TE:=fun O H Q=>td O H fun x H1=>ty O H1 fun y H2=>∃ a v,x=.ref a/\zcu H2 a y (some v)/\Q v H2
def zjJ(td ty tv:TE):TS:=fun D O H=>tv O H fun v H1=>td O H1 fun x H2=>ty O H2 fun y H3=>∃ a H4,x=.ref a/\zj8 H3 a y v H4/\D.nx O H4
section
variable {X:Cx}{o i e value:Expr}{pos pos' tpos:Pos}{td ty tv:TE}
theorem zeI(hu:X.A.units+1<cLine)(ho:PE X o td)(hi:PE X i ty)(hs:zkd i):PE X (.Subscript o i pos) (zjK td ty):=by
 intro pins s O H Q I h;refine zgs PySem.F.slot_dict_getitem.lookup hs (thn (ho pins s O H _ I h) fun u s1 ⟨x,H1,I1,rx,q1⟩=>thn (hi pins s1 O H1 _ I1 q1) fun iv s2 ⟨y,H2,I2,ry,a,v,ex,g,q2⟩=>?_);subst ex;obtain rfl:u=Value.ref a:=rx;exact ⟨z7h I2 g,zaM hu I2 g ry fun w' s3 I3 rw'=>⟨v,H2,I3,rw',q2⟩⟩
theorem zf1(hu:X.A.units+1<cLine)(ho:PE X o td)(hi:PE X i ty)(hv:PE X value tv)(hs:swapsWith value (some (.Subscript o i pos')) pos.line X.env=pure false): PS X (.Assign [.Subscript o i pos'] value pos) (zjJ td ty tv):=by
 intro pins s O H D I h;refine wpAny_Assign_Subscript (thn (hv pins s O H _ I h) fun r s1 ⟨v,H1,I1,rv,q1⟩=>thn (ho pins s1 O H1 _ I1 q1) fun u s2 ⟨x,H2,I2,rx,q2⟩=>thn (hi pins s2 O H2 _ I2 q2) fun iv s3 ⟨y,H3,I3,ry,a,H4,ex,g,q3⟩=>?_) hs;subst ex;obtain rfl:u=Value.ref a:=rx;exact zan hu I3 g ry rv fun s4 I4=>⟨O,H4,I4,q3⟩
end
theorem zcV{P:Program}{w:World}{H:Hp}(h:Heap)(hb:sysModules<h.objs.size):yj P w H (h.push {cls:=.type "dict",data:=.dict #[]}) h.objs.size (.dT []):= ⟨_ae _,beq_eq_false_iff_ne.mpr (_a5 (_x hb)),[],.nil,_,#[],0,_h _ rfl,⟨rfl,rfl,rfl⟩,rfl,rfl,List.nodup_nil⟩
def zhI:TE:=fun _ H Q=>∀ p,H p=none->Q (.ref p) (upd H p (.dT []))
section
variable {X:Cx}{pos:Pos}
theorem zdy:PE X (.Dict [] [] pos) zhI:=fun pins s O H Q I h=> wpAny_Dict_empty ⟨.ref s.heap.objs.size,_,I.laid (a:=s.heap.objs.size) (o:=.dT []) (t':=s.toks) (fun _ _ q=>_d _ q) (_g _) (zcV s.heap I.big),rfl,h _ (I.hok.fresh (_g _))⟩
end
structure M2(X:Cx)(o:Expr)(m:Str)(apos:Pos)(e f:Expr)(cpos:Pos):Prop where
 base:attributeBase o m X.env (eval o X.env)=eval o X.env
 few:((backTo cpos (starEach [e,f] X.env)).all (fun x=>!x.1)&&(backToKw cpos (keywordEach [] X.env)).all (fun x=>x.1.isSome) && decide (([e,f]:List Expr).length+([]:List Keyword).length+(if ([]:List Keyword).isEmpty then 0 else 1)<30))=true
 line:(apos.endLine==cpos.line)=true
 trees:backTo cpos (starEach [e,f] X.env)=[(false,eval e X.env),(false,eval f X.env)]
def IsD(H:Hp)(a:Addr):Prop:=(∃ kvs,Rd H a (.dK kvs))\/∃ kvs,Rd H a (.dT kvs)
theorem zeg{X:Cx}{pins:List (Addr×Obj)}{O:St}{H:Hp}{s:Shared}{a:Addr}(I:Inv X pins O H s)(d:IsD H a): s.TypeIs (.ref a) "dict"/\(∀ b,Value.ref a=.ref b->∃ ob,s.heap.get? b=some ob/\ob.dict=none)/\(a==sysModules)=false:=by
 rcases d with ⟨kvs,e⟩ | ⟨kvs,e⟩
 ·obtain ⟨_,hd,vs,_,dd⟩:=z7M I.hok e;refine ⟨dd.typeIs,fun b q=>?_,hd⟩;cases q;obtain ⟨ob,_,_,h1,h2,_⟩:=dd;exact ⟨ob,h1,h2.2.1⟩
 ·obtain ⟨_,hd,xs,_,dd⟩:=z6p I.hok e;refine ⟨dd.typeIs,fun b q=>?_,hd⟩;cases q;obtain ⟨ob,_,_,h1,h2,_⟩:=dd;exact ⟨ob,h1,h2.2.1⟩
section
variable {X:Cx}{pins:List (Addr×Obj)}{O:St}{H:Hp}{s:Shared}{a:Addr}{y d:V}{u r:Value}{o:Option V}{A:Around}{E:Value->Shared->Prop}
theorem zhi{Q:Value->Shared->Prop}(hu:A.units+1<cLine)(I:Inv X pins O H s)(g:zcu H a y o)(ry:yu y u)(rd:yu d r)(h:∀ w' s',Inv X pins O H s'->yu (o.getD d) w'->Q w' s'): wpAny (model X.prog X.w) A (call (.builtin "dict.get") [.ref a,u,r]) Q E s:=by
 rcases g with ⟨kvs,k,e,ey,l⟩ | ⟨kvs,k,b,e,ey,eb,l⟩
 ·subst ey;obtain ⟨z,hd,vs,rel,dd⟩:=z7M I.hok e;refine call_meetsIn _aY dd.typeIs _bO (PySem.F.args_dict_get_3 _ _ _) (meets_dict_get_default (zG X.prog X.w) a (z9s ry) hd r) ⟨_,dd.mapOf,h _ _ (I.tok _) ?_⟩;rw [l];exact (rel.val k).getD rd
 ·subst ey;cases (show u=Value.ref b from ry);obtain ⟨z,hd,xs,rel,dd⟩:=z6p I.hok e;refine call_meetsIn _aY dd.typeIs _bO (PySem.F.args_dict_get_3 _ _ _) (meetsH_dict_get_default (tupleKind (zG X.prog X.w)) a b hd r) ⟨_bh hu,k,xs,z3y I.hok eb,dd,h _ _ (I.tok _) ?_⟩;rw [l];exact (rel.val k).getD rd
end
def ziq(td ty tx:TE):TE:=fun O H Q=>td O H fun x H1=>∃ a,x=.ref a/\IsD H1 a/\ty O H1 fun y H2=>tx O H2 fun z H3=>∃ o,zcu H3 a y o/\Q (o.getD z) H3
section
variable {X:Cx}{o e f:Expr}{apos cpos:Pos}{td ty tx:TE}
theorem zcz(hu:X.A.units+1<cLine)(ho:PE X o td)(he:PE X e ty)(hf:PE X f tx)(m:M2 X o "get" apos e f cpos):PE X (.Call (.Attribute o "get" apos) [e,f] [] cpos) (ziq td ty tx):=by
 intro pins s O H Q I h;refine wpAny_Call_method m.base m.few m.line _bI _aY PySem.F.type_dict_get (thn (ho pins s O H _ I h) fun u s1 ⟨x,H1,I1,rx,a,ex,d,q1⟩=>?_);subst ex;obtain rfl:u=Value.ref a:=rx;obtain ⟨t1,t2,_⟩:=zeg I1 d;refine ⟨t1,t2,?_⟩;rw [m.trees];refine _aS rfl (_a6 (_bE (thn (he pins s1 O H1 _ I1 q1) fun iv s2 ⟨y,H2,I2,ry,q2⟩=> _bE (thn (hf pins s2 O H2 _ I2 q2) fun fv s3 ⟨z,H3,I3,rz,ov,g,q3⟩=>_cJ ?_))));exact zhi hu I3 g ry rz fun w' s4 I4 rw'=>⟨_,H3,I4,rw',q3⟩
end
end L2
set_option maxHeartbeats 4000000
namespace Dd
open L2
theorem z8c(xs:List Expr)(k:Nat)(p:Pos)(es:List Expr)(env:Env):starEach (.Tuple xs k p::es) env=(false,eval (.Tuple xs k p) env)::starEach es env:=rfl
theorem zdc(xs:List Expr)(p:Pos)(es:List Expr)(env:Env):starEach (.List xs p::es) env=(false,eval (.List xs p) env)::starEach es env:=rfl
theorem z1D(f:Expr)(xs:List Expr)(ks:List Keyword)(p:Pos)(es:List Expr)(env:Env):starEach (.Call f xs ks p::es) env=(false,eval (.Call f xs ks p) env)::starEach es env:=rfl
theorem zcD(a:Expr)(o:Operator)(b:Expr)(p:Pos)(es:List Expr)(env:Env):starEach (.BinOp a o b p::es) env=(false,eval (.BinOp a o b p) env)::starEach es env:=rfl
theorem z1x(a b:Expr)(p:Pos)(es:List Expr)(env:Env):starEach (.Subscript a b p::es) env=(false,eval (.Subscript a b p) env)::starEach es env:=rfl
theorem xf(a:Expr)(g:List Comprehension)(sc:Scope)(p:Pos)(es:List Expr)(env:Env):starEach (.ListComp a g sc p::es) env=(false,eval (.ListComp a g sc p) env)::starEach es env:=rfl
theorem z7T(a:Expr)(o:List CmpOp)(b:List Expr)(p:Pos)(es:List Expr)(env:Env):starEach (.Compare a o b p::es) env=(false,eval (.Compare a o b p) env)::starEach es env:=rfl
theorem z3D(c:Const)(j:Nat)(p:Pos)(es:List Expr)(env:Env):starEach (.Constant c j p::es) env=(false,eval (.Constant c j p) env)::starEach es env:=rfl
theorem zy(x:Str)(p:Pos)(es:List Expr)(env:Env):starEach (.Name x p::es) env=(false,eval (.Name x p) env)::starEach es env:=rfl
theorem zg3(o:UnaryOp)(a:Expr)(p:Pos)(es:List Expr)(env:Env):starEach (.UnaryOp o a p::es) env=(false,eval (.UnaryOp o a p) env)::starEach es env:=rfl
inductive D where | non | bl (b:Bool) | int (i:Int) | str (x:Str) | tup (xs:List D) | lst (xs:List D) | dct | loc (l:Nat) | dlo (l:Nat) | fn (x:Str) | exc (x:Str) | scr (xs:List D)
abbrev Sto:=List (List D)
abbrev Ev:=List (Option D)
inductive R(α:Type) where | ok (a:α)(s:Sto) | ex (c:Str)(s:Sto) | no
def R.bind{α β:Type}(r:R α)(k:α->Sto->R β):R β:=match r with
 | .ok a s=>k a s | .ex c s=>.ex c s | .no=>.no
@[simp] theorem R.bind_ok {α β:Type}(a:α)(s:Sto)(k:α->Sto->R β):(R.ok a s).bind k=k a s:=id rfl
abbrev Rb:=@R.bind_ok
@[simp] theorem R.bind_ex {α β:Type}(c:Str)(s:Sto)(k:α->Sto->R β):(R.ex c s:R α).bind k=.ex c s:=id rfl
def D.flat:D->Bool
 | .tup xs=>flats xs | .lst xs=>flats xs | .scr xs=>flats xs | .loc _=>false | .dlo _=>false | _=>true
where flats:List D->Bool
 | []=>true | x::xs=>x.flat&&flats xs
def zcG(C a:Addr):HO:=.ext fun h=>∃ o vs,h.get? a=some o/\o.cls=.ref C/\o.data=.fields vs
structure Gm where
 m:Str->Option Value
 K:W.Frag
abbrev gm(X:Cx):Gm:=⟨X.mg,X.K⟩
def IsL(H:Hp)(a:Addr):Prop:=∃ vs,H a=some (.lst vs)
def IsC(H:Hp)(a:Addr):Prop:=(∃ kvs,H a=some (.dT kvs))\/∃ o kvs,H a=some (.frz o (.dT kvs))
theorem IsL.notC{H:Hp}{a:Addr}(h:IsL H a)(h':IsC H a):False:=by obtain ⟨_,e⟩:=h;rcases h' with ⟨_,e'⟩ | ⟨_,_,e'⟩<;>rw [e] at e'<;>cases e'
def z6n:Key->D
 | .inl i=>.int i | .inr x=>.str x
def z9l:V->Option D
 | .int i=>some (.int i) | .bl b=>some (.bl b) | _=>none
def zdE:List D->List (List Key×V)->Prop
 | [],kvs=>kvs=[] | d::ds,kvs=>∃ k v x r,kvs=(k,v)::r/\z9l v=some x/\d=.tup [.tup (k.map z6n),x]/\zdE ds r
def KL(K:W.Frag)(a:Addr)(xs:List V):Prop:=∃ (o:Obj)(its:Array Value)(n:Nat),K.lookup a=some o/\o.cls=.type "list"/\o.dict=none/\o.data=.seq its n/\its.size<=sizeLine/\ym xs its.toList
section
variable (mg:Gm)
mutual
def Den(H:Hp)(Y:List Addr):D->V->Prop
 | .non,v=>v=.non | .bl b,v=>v=.bl b | .int i,v=>v=.int i | .str x,v=>v=.str x | .tup ds,v=>∃ a vs,v=.ref a/\H a=some (.tup vs)/\zq H Y ds vs | .lst ds,v=>∃ a o vs,v=.ref a/\H a=some (.frz o (.lst vs))/\zq H Y ds vs | .dct,v=>∃ a,v=.ref a/\H a=some (.dK []) | .loc l,v=>∃ a,v=.ref a/\Y[l]? = some a/\IsL H a | .dlo l,v=>∃ a,v=.ref a/\Y[l]? = some a/\IsC H a | .fn x,v=>∃ a,v=.ref a/\mg.m x=some (.ref a) | .exc x,v=>∃ a C,v=.ref a/\mg.m x=some (.ref C)/\H a=some (zcG C a) | .scr ds,v=>∃ a vs,v=.ref a/\((∃ o,H a=some (.frz o (.lst vs)))\/KL mg.K a vs)/\zq H Y ds vs
def zq(H:Hp)(Y:List Addr):List D->List V->Prop
 | [],vs=>vs=[] | d::ds,vs=>∃ v r,vs=v::r/\Den H Y d v/\zq H Y ds r
end
def uA(H:Hp)(Y:List Addr)(xs:List D)(a:Addr):Prop:=(∃ vs,H a=some (.lst vs)/\zq mg H Y xs vs)\/(∃ kvs,H a=some (.dT kvs)/\zdE xs kvs)\/∃ o kvs ys,H a=some (.frz o (.dT kvs))/\xs=.non::ys/\zdE ys kvs
structure Rep(H:Hp)(Y:List Addr)(s:Sto):Prop where
 len:Y.length=s.length
 nd:Y.Nodup
 cell:∀ (l:Nat)(xs:List D),s[l]? = some xs->∃ a,Y[l]? = some a/\uA mg H Y xs a
 flat:∀ xs∈s,D.flat.flats xs=true
structure xr(H:Hp)(Y:List Addr)(H':Hp)(Y':List Addr)(s':Sto):Prop where
 rep:Rep mg H' Y' s'
 pre:Y <+: Y'
 keep:∀ b o,H b=some o->b∉Y->H' b=some o
 new:∀ a∈Y',a∉Y->H a=none
 mt:∀ a∈Y,(IsL H a/\IsL H' a)\/(IsC H a/\IsC H' a/\∀ o u,H a=some (.frz o u)->H' a=some (.frz o u))
end
section
variable {mg:Gm}{H H' H1 H2:Hp}{Y Y' Y1 Y2:List Addr}{s s' s1 s2:Sto}
theorem uA.kind{xs:List D}{a:Addr}(h:uA mg H Y xs a):IsL H a\/IsC H a:=h.imp (fun ⟨vs,e,_⟩=>⟨vs,e⟩) fun h=>h.imp (fun ⟨k,e,_⟩=>⟨k,e⟩) fun ⟨o,k,_,e,_⟩=>⟨o,k,e⟩
theorem Rep.mt(r:Rep mg H Y s):∀ a∈Y,IsL H a\/IsC H a:=fun a ha=>by
 obtain ⟨l,hl,e⟩:=_D.mp ha;have hl':l<s.length:=by rw [<- r.len];exact hl
 obtain ⟨b,e1,c⟩:=r.cell l s[l] (_e hl');rw [_e hl] at e1;have:Y[l]=b:=_K e1;rw [<- e,this];exact c.kind
theorem Rep.at_(r:Rep mg H Y s){l:Nat}{xs:List D}{a:Addr}(h:s[l]? = some xs)(ha:Y[l]? = some a)(k:IsL H a):∃ vs,H a=some (.lst vs)/\zq mg H Y xs vs:=by
 obtain ⟨b,e1,c⟩:=r.cell l xs h;rw [ha] at e1;cases e1;rcases c with c | ⟨kvs,e,_⟩ | ⟨o,kvs,_,e,_⟩;·exact c
 ·exact (k.notC (.inl ⟨kvs,e⟩)).elim
 ·exact (k.notC (.inr ⟨o,kvs,e⟩)).elim
theorem Rep.dic(r:Rep mg H Y s){l:Nat}{xs:List D}{a:Addr}(h:s[l]? = some xs)(ha:Y[l]? = some a)(k:IsC H a):(∃ kvs,H a=some (.dT kvs)/\zdE xs kvs)\/∃ o kvs ys,H a=some (.frz o (.dT kvs))/\xs=.non::ys/\zdE ys kvs:=by
 obtain ⟨b,e1,c⟩:=r.cell l xs h;rw [ha] at e1;cases e1;rcases c with ⟨vs,e,_⟩ | c;·exact (IsL.notC ⟨vs,e⟩ k).elim
 ·exact c
theorem xr.refl(r:Rep mg H Y s):xr mg H Y H Y s:=⟨r,_db _,fun _ _ h _=>h,fun a h1 h2=>absurd h1 h2,fun a ha=>(r.mt a ha).imp (fun h=>⟨h,h⟩) fun h=>⟨h,h,fun _ _ q=>q⟩⟩
theorem xr.trans(a:xr mg H Y H1 Y1 s1)(b:xr mg H1 Y1 H2 Y2 s2):xr mg H Y H2 Y2 s2:=by
 refine ⟨b.rep,a.pre.trans b.pre,fun c o h n=>?_,fun c h1 h2=>?_,fun c hc=>?_⟩
 ·refine b.keep c o (a.keep c o h n) fun z=>?_;rw [a.new c z n] at h;cases h
 ·by_cases h3:c∈Y1;·exact a.new c h3 h2
  ·cases e:H c with
   | none=>rfl | some o=>rw [<- b.new c h1 h3,a.keep c o e h2]
 ·have hc1:c∈Y1:=a.pre.subset hc;rcases a.mt c hc with ⟨k1,k2⟩ | ⟨k1,k2,k3⟩
  ·rcases b.mt c hc1 with ⟨_,q⟩ | ⟨q,_,_⟩;·exact .inl ⟨k1,q⟩
   ·exact (k2.notC q).elim
  ·rcases b.mt c hc1 with ⟨q,_⟩ | ⟨_,q,q3⟩;·exact (q.notC k2).elim
   ·exact .inr ⟨k1,q,fun o u z=>q3 o u (k3 o u z)⟩
theorem xr.stay(stp:xr mg H Y H' Y' s'){b:Addr}{o:HO}(h:H b=some o)(hn:∀ vs,o≠.lst vs)(hn2:∀ kvs,o≠.dT kvs:=by intro vs z;cases z):H' b=some o:=by
 by_cases hb:b∈Y
 ·rcases stp.mt b hb with ⟨⟨vs,e⟩,_⟩ | ⟨⟨vs,e⟩ | ⟨p,vs,e⟩,_,q⟩
  ·rw [h] at e;exact absurd (_K e) (hn vs)
  ·rw [h] at e;exact absurd (_K e) (hn2 vs)
  ·rw [h] at e;cases e;exact q _ _ h
 ·exact stp.keep b o h hb
mutual
theorem Den.mono(stp:xr mg H Y H' Y' s'):∀ {d:D}{v:V},Den mg H Y d v->Den mg H' Y' d v
 | .non,_,h=>by simpa [Den] using h | .bl _,_,h=>by simpa [Den] using h | .int _,_,h=>by simpa [Den] using h | .str _,_,h=>by simpa [Den] using h | .tup ds,v,h=>by
  simp only [Den] at h ⊢;obtain ⟨a,vs,e,h1,h2⟩:=h;exact ⟨a,vs,e,stp.stay h1 (by intro vs z;cases z),zq.mono stp h2⟩ | .lst ds,v,h=>by
  simp only [Den] at h ⊢;obtain ⟨a,o,vs,e,h1,h2⟩:=h;exact ⟨a,o,vs,e,stp.stay h1 (by intro vs z;cases z),zq.mono stp h2⟩ | .dct,v,h=>by
  simp only [Den] at h ⊢;obtain ⟨a,e,h1⟩:=h;exact ⟨a,e,stp.stay h1 (by intro vs z;cases z)⟩ | .loc l,v,h=>by
  simp only [Den] at h ⊢;obtain ⟨a,e,h1,k⟩:=h;obtain ⟨t,ht⟩:=stp.pre;refine ⟨a,e,?_,?_⟩
  ·rw [<- ht,_o (_b.mp h1).1];exact h1
  ·rcases stp.mt a (_A h1) with ⟨_,q⟩ | ⟨q,_,_⟩;·exact q
   ·exact (k.notC q).elim | .dlo l,v,h=>by
  simp only [Den] at h ⊢;obtain ⟨a,e,h1,k⟩:=h;obtain ⟨t,ht⟩:=stp.pre;refine ⟨a,e,?_,?_⟩
  ·rw [<- ht,_o (_b.mp h1).1];exact h1
  ·rcases stp.mt a (_A h1) with ⟨q,_⟩ | ⟨_,q,_⟩;·exact (q.notC k).elim
   ·exact q | .fn _,_,h=>by simpa [Den] using h | .exc x,v,h=>by
  simp only [Den] at h ⊢;obtain ⟨a,C,e,h1,h2⟩:=h;exact ⟨a,C,e,h1,stp.stay h2 (by intro vs z;cases z)⟩ | .scr ds,v,h=>by
  simp only [Den] at h ⊢;obtain ⟨a,vs,e,h1,h2⟩:=h;exact ⟨a,vs,e,h1.imp (fun ⟨o,h1⟩=>⟨o,stp.stay h1 (by intro vs z;cases z)⟩) id,zq.mono stp h2⟩
theorem zq.mono(stp:xr mg H Y H' Y' s'):∀ {ds:List D}{vs:List V},zq mg H Y ds vs->zq mg H' Y' ds vs
 | [],_,h=>by simpa [zq] using h | d::ds,vs,h=>by
  simp only [zq] at h ⊢;obtain ⟨v,r,e,h1,h2⟩:=h;exact ⟨v,r,e,Den.mono stp h1,zq.mono stp h2⟩
end
theorem zq.length:∀ {ds:List D}{vs:List V},zq mg H Y ds vs->vs.length=ds.length
 | [],_,h=>by simp only [zq] at h;rw [h];rfl | d::ds,vs,h=>by
  simp only [zq] at h;obtain ⟨v,r,rfl,_,h2⟩:=h;simp [zq.length h2]
theorem zq.get:∀ {ds:List D}{vs:List V}{i:Nat}{d:D},zq mg H Y ds vs->ds[i]? = some d->∃ v,vs[i]? = some v/\Den mg H Y d v
 | [],_,_,_,_,e=>by simp at e | d::ds,vs,0,d',h,e=>by
  simp only [zq] at h;obtain ⟨v,r,rfl,h1,_⟩:=h;simp at e;subst e;exact ⟨v,by simp,h1⟩ | d::ds,vs,i+1,d',h,e=>by
  simp only [zq] at h;obtain ⟨v,r,rfl,_,h2⟩:=h;obtain ⟨u,h3,h4⟩:=zq.get (i:=i) h2 (by simpa using e);exact ⟨u,by simpa using h3,h4⟩
theorem zq.append:∀ {ds es:List D}{vs us:List V},zq mg H Y ds vs->zq mg H Y es us->zq mg H Y (ds++es) (vs++us)
 | [],_,_,_,h,h'=>by simp only [zq] at h;subst h;simpa using h' | d::ds,_,_,_,h,h'=>by
  simp only [zq] at h;obtain ⟨v,r,rfl,h1,h2⟩:=h;simp only [_bs,zq];exact ⟨v,_,rfl,h1,zq.append h2 h'⟩
theorem zq.nil:zq mg H Y [] []:=by simp [zq]
theorem zq.cons {d:D} {ds:List D} {v:V} {vs:List V} (h:Den mg H Y d v) (h':zq mg H Y ds vs):zq mg H Y (d::ds) (v::vs):=by
 simp only [zq];exact ⟨v,vs,rfl,h,h'⟩
theorem zq.one{d:D}{v:V}(h:Den mg H Y d v):zq mg H Y [d] [v]:=.cons h .nil
theorem zq.take:∀ {ds:List D}{vs:List V}(n:Nat),zq mg H Y ds vs->zq mg H Y (ds.take n) (vs.take n)
 | ds,vs,0,h=>by simp [zq] | [],vs,n+1,h=>by simp only [zq] at h;subst h;simp [zq] | d::ds,vs,n+1,h=>by
  simp only [zq] at h;obtain ⟨v,r,rfl,h1,h2⟩:=h;simp only [List.take_succ_cons];exact .cons h1 (zq.take n h2)
theorem zq.drop:∀ {ds:List D}{vs:List V}(n:Nat),zq mg H Y ds vs->zq mg H Y (ds.drop n) (vs.drop n)
 | ds,vs,0,h=>by simpa using h | [],vs,n+1,h=>by simp only [zq] at h;subst h;simp [zq] | d::ds,vs,n+1,h=>by
  simp only [zq] at h;obtain ⟨v,r,rfl,h1,h2⟩:=h;simpa using zq.drop n h2
theorem zq.set:∀ {ds:List D}{vs:List V}{d:D}{v:V}(n:Nat),zq mg H Y ds vs->Den mg H Y d v->zq mg H Y (ds.set n d) (vs.set n v)
 | [],vs,_,_,n,h,_=>by simp only [zq] at h;subst h;simp [zq] | d::ds,vs,_,_,0,h,h'=>by
  simp only [zq] at h;obtain ⟨v,r,rfl,h1,h2⟩:=h;simpa using zq.cons h' h2 | d::ds,vs,_,_,n+1,h,h'=>by
  simp only [zq] at h;obtain ⟨v,r,rfl,h1,h2⟩:=h;simpa using zq.cons h1 (zq.set n h2 h')
mutual
theorem Den.flatten(k:∀ b o,H b=some o->(∀ vs,o≠.lst vs)->(∀ kvs,o≠.dT kvs)->H' b=some o):∀ {d:D}{v:V},d.flat=true->Den mg H Y d v->Den mg H' Y' d v
 | .non,_,_,h=>by simpa [Den] using h | .bl _,_,_,h=>by simpa [Den] using h | .int _,_,_,h=>by simpa [Den] using h | .str _,_,_,h=>by simpa [Den] using h | .tup ds,v,f,h=>by
  simp only [Den] at h ⊢;obtain ⟨a,vs,e,h1,h2⟩:=h;exact ⟨a,vs,e,k a _ h1 (by intro vs z;cases z) (by intro vs z;cases z),zq.flatten k (by simpa [D.flat] using f) h2⟩ | .lst ds,v,f,h=>by
  simp only [Den] at h ⊢;obtain ⟨a,o,vs,e,h1,h2⟩:=h;exact ⟨a,o,vs,e,k a _ h1 (by intro vs z;cases z) (by intro vs z;cases z),zq.flatten k (by simpa [D.flat] using f) h2⟩ | .dct,v,_,h=>by
  simp only [Den] at h ⊢;obtain ⟨a,e,h1⟩:=h;exact ⟨a,e,k a _ h1 (by intro vs z;cases z) (by intro vs z;cases z)⟩ | .loc l,v,f,h=>by simp [D.flat] at f | .dlo l,v,f,h=>by simp [D.flat] at f | .fn _,_,_,h=>by simpa [Den] using h | .exc x,v,_,h=>by
  simp only [Den] at h ⊢;obtain ⟨a,C,e,h1,h2⟩:=h;exact ⟨a,C,e,h1,k a _ h2 (by intro vs z;cases z) (by intro vs z;cases z)⟩ | .scr ds,v,f,h=>by
  simp only [Den] at h ⊢;obtain ⟨a,vs,e,h1,h2⟩:=h;exact ⟨a,vs,e,h1.imp (fun ⟨o,h1⟩=>⟨o,k a _ h1 (by intro vs z;cases z) (by intro vs z;cases z)⟩) id,zq.flatten k (by simpa [D.flat] using f) h2⟩
theorem zq.flatten(k:∀ b o,H b=some o->(∀ vs,o≠.lst vs)->(∀ kvs,o≠.dT kvs)->H' b=some o):∀ {ds:List D}{vs:List V},D.flat.flats ds=true->zq mg H Y ds vs->zq mg H' Y' ds vs
 | [],_,_,h=>by simpa [zq] using h | d::ds,vs,f,h=>by
  simp only [zq] at h ⊢;simp only [D.flat.flats,_E] at f;obtain ⟨v,r,e,h1,h2⟩:=h;exact ⟨v,r,e,Den.flatten k f.1 h1,zq.flatten k f.2 h2⟩
end
end
def okR{α β:Type}(mg:Gm)(E:XK)(H:Hp)(Y:List Addr)(Dn:Hp->List Addr->α->β->Prop)(r:R α)(Q:β->Hp->Prop):Prop:=match r with
 | .ok a s'=>∀ b H' Y',xr mg H Y H' Y' s'->Dn H' Y' a b->Q b H' | .ex c s'=>∀ H' Y' C,xr mg H Y H' Y' s'->mg.m c=some (.ref C)->E (.ref C) none H' | .no=>False
section
variable {α β α2 β2:Type}{mg:Gm}{E:XK}{H H' H1 H2:Hp}{Y Y' Y1 Y2:List Addr}{s s' s1 s2:Sto}{Dn:Hp->List Addr->α->β->Prop}{Dn2:Hp->List Addr->α2->β2->Prop}
theorem okR.rebase{r:R α}{Q:β->Hp->Prop}(h:okR mg E H Y Dn r Q)(stp:xr mg H Y H1 Y1 s1):okR mg E H1 Y1 Dn r Q:=by cases r with
 | ok a s'=>exact fun b H' Y' stp'=>h b H' Y' (stp.trans stp') | ex c s'=>exact fun H' Y' C stp'=>h H' Y' C (stp.trans stp') | no=>exact h
theorem okR.bind{r:R α}{k:α->Sto->R α2}{Q:β2->Hp->Prop}(h:okR mg E H Y Dn2 (r.bind k) Q): okR mg E H Y Dn r (fun b H1=>∃ Y1 s1 a,xr mg H Y H1 Y1 s1/\Dn H1 Y1 a b/\okR mg E H1 Y1 Dn2 (k a s1) Q):=by cases r with
 | ok a s'=>exact fun b H' Y' stp dn=>⟨Y',s',a,stp,dn,okR.rebase h stp⟩ | ex c s'=>exact h | no=>exact h
theorem okR.imp{r:R α}{Q Q':β->Hp->Prop}(h:okR mg E H Y Dn r Q)(i:∀ b H',Q b H'->Q' b H'):okR mg E H Y Dn r Q':=by cases r with
 | ok a s'=>exact fun b H' Y' stp dn=>i b H' (h b H' Y' stp dn) | ex c s'=>exact h | no=>exact h
theorem okR.here{a:α}{Q:β->Hp->Prop}{b:β}(h:okR mg E H Y Dn (.ok a s) Q)(r:Rep mg H Y s)(d:Dn H Y a b):Q b H:=h b H Y (.refl r) d
end
structure vG(mg:Gm)(H:Hp)(Y:List Addr)(Z:Ev)(O:L2.St):Prop where
 len:Z.length=O.length
 at_:∀ (i:Nat)(d:D),Z[i]? = some (some d)->∃ v,O[i]? = some (some v)/\Den mg H Y d v
theorem vG.mono{mg:Gm}{H H':Hp}{Y Y':List Addr}{s':Sto}{Z:Ev}{O:L2.St}(e:vG mg H Y Z O)(stp:xr mg H Y H' Y' s'):vG mg H' Y' Z O:= ⟨e.len,fun i d h=>let ⟨v,h1,h2⟩:=e.at_ i d h;⟨v,h1,h2.mono stp⟩⟩
theorem vG.set{mg:Gm}{H:Hp}{Y:List Addr}{Z:Ev}{O:L2.St}{d:D}{v:V}(e:vG mg H Y Z O)(h:Den mg H Y d v)(i:Nat):vG mg H Y (Z.set i (some d)) (O.set i (some v)):=by
 refine ⟨by simp [e.len],fun j d' hj=>?_⟩;by_cases hij:i=j
 ·subst hij;have hi:i<Z.length:=by
   have:=(_b.mp hj).1;simpa using this
  rw [_O hi] at hj;cases hj;exact ⟨v,by rw [_O (by rw [<- e.len];exact hi)],h⟩
 ·rw [_C hij] at hj ⊢;exact e.at_ j d' hj
abbrev FE:=Ev->Sto->R D
abbrev FT:=Ev->Sto->R Bool
abbrev FA:=Ev->Sto->R (List D)
inductive Fl where | nx (Z:Ev) | rt (d:D) | bk (Z:Ev) | ct (Z:Ev)
inductive FlV where | nx (O:L2.St) | rt (v:V) | bk (O:L2.St) | ct (O:L2.St)
abbrev FS:=Ev->Sto->R Fl
def FlD(mg:Gm)(H:Hp)(Y:List Addr):Fl->FlV->Prop
 | .nx Z,.nx O=>vG mg H Y Z O | .rt d,.rt v=>Den mg H Y d v | .bk Z,.bk O=>vG mg H Y Z O | .ct Z,.ct O=>vG mg H Y Z O | _,_=>False
def z3w(D:zfN):FlV->Hp->Prop
 | .nx O,H=>D.nx O H | .rt v,H=>D.rt v H | .bk O,H=>D.bk O H | .ct O,H=>D.ct O H
def bD(_:Hp)(_:List Addr)(a b:Bool):Prop:=a=b
def tE(mg:Gm)(E:XK)(f:FE):TE:=fun O H Q=>∃ Y Z s,Rep mg H Y s/\vG mg H Y Z O/\okR mg E H Y (Den mg) (f Z s) Q
def tT(mg:Gm)(E:XK)(f:FT):TT:=fun O H Q=>∃ Y Z s,Rep mg H Y s/\vG mg H Y Z O/\okR mg E H Y bD (f Z s) Q
def tA(mg:Gm)(E:XK)(f:FA):TA:=fun O H Q=>∃ Y Z s,Rep mg H Y s/\vG mg H Y Z O/\okR mg E H Y (zq mg) (f Z s) Q
def tS(mg:Gm)(E:XK)(f:FS):TS:=fun D O H=>∃ Y Z s,Rep mg H Y s/\vG mg H Y Z O/\okR mg E H Y (FlD mg) (f Z s) (z3w D)
def RE(X:Cx)(E:XK)(e:Expr)(f:FE):Prop:=PE X e (tE (gm X) E f)
def RT(X:Cx)(E:XK)(e:Expr)(f:FT):Prop:=PT X e (tT (gm X) E f)
def RA(X:Cx)(E:XK)(es:List Expr)(f:FA):Prop:=PA X es (tA (gm X) E f)
def RS(X:Cx)(E:XK)(st:Stmt)(f:FS):Prop:=PS X st (tS (gm X) E f)
def RSs(X:Cx)(E:XK)(st:List Stmt)(f:FS):Prop:=PSs X st (tS (gm X) E f)
section
variable {X:Cx}{E:XK}{e a b c:Expr}{es:List Expr}{pos:Pos}
theorem zE{t t':TE}(h:PE X e t)(i:∀ O H Q,t' O H Q->t O H Q):PE X e t':=fun pins s O H Q I q=>h pins s O H Q I (i O H Q q)
theorem z8x{t t':TT}(h:PT X e t)(i:∀ O H Q,t' O H Q->t O H Q):PT X e t':=fun pins s O H Q I q=>h pins s O H Q I (i O H Q q)
theorem ze1{t t':TA}(h:PA X es t)(i:∀ O H Q,t' O H Q->t O H Q):PA X es t':=fun pos pins s O H Q I q=>h pos pins s O H Q I (i O H Q q)
theorem vK{st:Stmt}{t t':TS}(h:PS X st t)(i:∀ D O H,t' D O H->t D O H):PS X st t':=fun pins s O H D I q=>h pins s O H D I (i D O H q)
theorem zb2{st:List Stmt}{t t':TS}(h:PSs X st t)(i:∀ D O H,t' D O H->t D O H):PSs X st t':=fun pins s O H D I q=>h pins s O H D I (i D O H q)
theorem zB{α β:Type}{Dn:Hp->List Addr->α->β->Prop}{mg:Gm}{f:FE}{k:Ev->D->Sto->R α}{O:L2.St}{H:Hp}{Q:β->Hp->Prop}{Y:List Addr}{Z:Ev}{s:Sto}(r:Rep mg H Y s)(en:vG mg H Y Z O) (h:okR mg E H Y Dn ((f Z s).bind (k Z)) Q)(K:V->Hp->Prop) (hK:∀ v H1 Y1 s1 d,Rep mg H1 Y1 s1->vG mg H1 Y1 Z O->Den mg H1 Y1 d v->xr mg H Y H1 Y1 s1->okR mg E H1 Y1 Dn (k Z d s1) Q->K v H1):tE mg E f O H K:= ⟨Y,Z,s,r,en,(okR.bind (Dn:=Den mg) h).imp fun v H1 ⟨Y1,s1,d,stp,dn,q⟩=>hK v H1 Y1 s1 d stp.rep (en.mono stp) dn stp q⟩
theorem z24{α β:Type}{Dn:Hp->List Addr->α->β->Prop}{mg:Gm}{f:FT}{k:Ev->Bool->Sto->R α}{O:L2.St}{H:Hp}{Q:β->Hp->Prop}{Y:List Addr}{Z:Ev}{s:Sto}(r:Rep mg H Y s)(en:vG mg H Y Z O) (h:okR mg E H Y Dn ((f Z s).bind (k Z)) Q)(K:Bool->Hp->Prop) (hK:∀ v H1 Y1 s1,Rep mg H1 Y1 s1->vG mg H1 Y1 Z O->xr mg H Y H1 Y1 s1->okR mg E H1 Y1 Dn (k Z v s1) Q->K v H1):tT mg E f O H K:= ⟨Y,Z,s,r,en,(okR.bind (Dn:=bD) h).imp fun v H1 ⟨Y1,s1,d,stp,dn,q⟩=>hK v H1 Y1 s1 stp.rep (en.mono stp) stp (by cases (show d=v from dn);exact q)⟩
theorem uL{α β:Type}{Dn:Hp->List Addr->α->β->Prop}{mg:Gm}{f:FA}{k:Ev->List D->Sto->R α}{O:L2.St}{H:Hp}{Q:β->Hp->Prop}{Y:List Addr}{Z:Ev}{s:Sto}(r:Rep mg H Y s)(en:vG mg H Y Z O) (h:okR mg E H Y Dn ((f Z s).bind (k Z)) Q)(K:List V->Hp->Prop) (hK:∀ v H1 Y1 s1 d,Rep mg H1 Y1 s1->vG mg H1 Y1 Z O->zq mg H1 Y1 d v->xr mg H Y H1 Y1 s1->okR mg E H1 Y1 Dn (k Z d s1) Q->K v H1):tA mg E f O H K:= ⟨Y,Z,s,r,en,(okR.bind (Dn:=zq mg) h).imp fun v H1 ⟨Y1,s1,d,stp,dn,q⟩=>hK v H1 Y1 s1 d stp.rep (en.mono stp) dn stp q⟩
def zc(i:Nat):FE:=fun Z s=>match Z[i]? with | some (some d)=>.ok d s | _=>.no
theorem zb(i:Nat){x:Str}(hN:X.N[i]? = some x:=by rfl)(hv:Vis X.env.scope x:=by first | exact Or.inl rfl | exact Or.inr (Or.inl rfl) | exact Or.inr (Or.inr rfl))(hd:(x==("__debug__":Str))=false:=by decide) (hcd:(x==("__classdict__":Str))=false:=by decide):RE X E (.Name x pos) (zc i):= zE (ze7 hN hv hd hcd) fun O H Q ⟨Y,Z,s,r,en,h⟩=>by
  unfold zc at h;split at h
  ·rename_i d hd;obtain ⟨v,h1,h2⟩:=en.at_ i d hd;exact ⟨v,h1,h.here r h2⟩
  ·exact h.elim
def eC(d:D):FE:=fun _ s=>.ok d s
theorem zm{i:Int}{j:Nat}:RE X E (.Constant (.int i) j pos) (eC (.int i)):=zE zeA fun O H Q ⟨Y,Z,s,r,en,h⟩=>okR.here (b:=V.int i) h r (by simp [Den])
theorem zby{i:Bool}{j:Nat}:RE X E (.Constant (.bool i) j pos) (eC (.bl i)):=zE zkh fun O H Q ⟨Y,Z,s,r,en,h⟩=>okR.here (b:=V.bl i) h r (by simp [Den])
theorem zdr{j:Nat}:RE X E (.Constant .none j pos) (eC .non):=zE zie fun O H Q ⟨Y,Z,s,r,en,h⟩=>okR.here (b:=V.non) h r (by simp [Den])
theorem yF{i:Str}{j:Nat}:RE X E (.Constant (.str i) j pos) (eC (.str i)):=zE zeb fun O H Q ⟨Y,Z,s,r,en,h⟩=>okR.here (b:=V.str i) h r (by simp [Den])
theorem zif{x:Str}{i:Int}{t:Tok}(hg:Gl X x)(hm:X.mg x=some (.int i t))(hd:(x==("__debug__":Str))=false:=by decide):RE X E (.Name x pos) (eC (.int i)):= zE (z4A hg hm (show yu (.int i) (.int i t) from ⟨t,rfl⟩) hd) fun O H Q ⟨Y,Z,s,r,en,h⟩=>okR.here (b:=V.int i) h r (by simp [Den])
def OpF(X:Cx)(E:XK)(r:R2)(op:D->D->Sto->R D):Prop:= ∀ H Y s d1 d2 v1 v2 (Q:VK),Rep (gm X) H Y s->Den (gm X) H Y d1 v1->Den (gm X) H Y d2 v2->okR (gm X) E H Y (Den (gm X)) (op d1 d2 s) Q->r v1 v2 H Q
def eOp(op:D->D->Sto->R D)(fa fb:FE):FE:=fun Z s=>(fa Z s).bind fun x s1=>(fb Z s1).bind fun y s2=>op x y s2
theorem z8A{r:R2}{op:D->D->Sto->R D}{fa fb:FE}(ho:OpF X E r op){O:L2.St}{H:Hp}{Q:VK}(h:tE (gm X) E (eOp op fa fb) O H Q):tOp r (tE (gm X) E fa) (tE (gm X) E fb) O H Q:=by
 obtain ⟨Y,Z,s,r',en,h⟩:=h;refine zB (k:=fun Z x s1=>(fb Z s1).bind fun y s2=>op x y s2) r' en h _ fun v H1 Y1 s1 d r1 en1 dn stp h1=>?_;refine zB (k:=fun Z y s2=>op d y s2) r1 en1 h1 _ fun v2 H2 Y2 s2 d2 r2 en2 dn2 St2 h2=>?_;exact ho H2 Y2 s2 d d2 v v2 Q r2 (dn.mono St2) dn2 h2
theorem zlo{op:Operator}{r:R2}{fo:D->D->Sto->R D}{fa fb:FE}(ho:OpR X (binaryOp op) r/\OpF X E r fo)(ha:RE X E a fa)(hb:RE X E b fb):RE X E (.BinOp a op b pos) (eOp fo fa fb):= zE (zjo ho.1 ha hb) fun O H Q h=>z8A ho.2 h
theorem zjp{op:CmpOp}{r:R2}{fo:D->D->Sto->R D}{fa fb:FE}(ho:OpR X (compareOp op) r/\OpF X E r fo)(ha:RE X E a fa)(hb:RE X E b fb)(hm:behindInMarks op b=false):RE X E (.Compare a [op] [b] pos) (eOp fo fa fb):= zE (zbv ho.1 ha hb hm) fun O H Q h=>z8A ho.2 h
end
end Dd
namespace L2
theorem Inv.freeze {X:Cx} {pins:List (Addr×Obj)} {O:L2.St} {H:Hp} {s:Shared} {a:Addr} {u:HO} {o:Obj} (I:Inv X pins O H s) (h:H a=some u) (e:s.heap.get? a=some o) (hu:∀ xs,u≠.tup xs) (hf:∀ o v,u≠.frz o v) (ht:∀ ps,u≠.tbl ps) (ho:∀ y,u≠.own y): Inv X pins O (upd H a (.frz o u)) s:=by
 have ne:∀ {b:Addr} {v:HO},H b=some v->v≠u->b≠a:=fun {b v} hb hv z=>by subst z;rw [h] at hb;exact hv (_K hb).symm
 have stay:∀ b v,yj X.prog X.w H s.heap b v->yj X.prog X.w (upd H a (.frz o u)) s.heap b v:=fun b v q=> q.stay (fun _ _ _ q=>q) (fun c q=>by rw [zx (ne q (fun z=>ho b z.symm))];exact q) fun c xs q=>by rw [zx (ne q (fun z=>hu xs z.symm))];exact q
 have hok:HOk X.prog X.w (upd H a (.frz o u)) s.heap:=fun b v q=>by
  by_cases hb:b=a
  ·subst hb;rw [zC] at q;cases q;exact ⟨e,stay b u (I.hok b u h)⟩
  ·rw [zx hb] at q;exact stay b v (I.hok b v q)
 exact I.step (h':=s.heap) (g':=s.gens) (d':=s.drawn) (t':=s.toks) (ch:=[]) (fun b hb=>absurd hb (by simp)) (fun b o _ _ _ e _=>e) (fun b o _ _ _ e _=>⟨o.slots,e⟩) (fun b v _ _ n=>by rw [zx (fun z=>by subst z;rw [h] at n;cases n)];exact n) (fun b o _ e=>⟨o,e⟩) (fun b xs q=>by rw [zx (ne q (fun z=>hu xs z.symm))];exact q) (fun b o' v q=>by rw [zx (ne q (fun z=>hf o' v z.symm))];exact q) (fun b ps q=>⟨#[],by rw [zx (ne q (fun z=>ht ps z.symm)),q];simp⟩) (fun _ q=>q) hok I.bare
def z9w(Q:VK):VK:=fun v H=>∃ a xs,v=.ref a/\H a=some (.lst xs)/\∀ o,Q v (upd H a (.frz o (.lst xs)))
theorem EP.freeze{X:Cx}{pins:List (Addr×Obj)}{O:L2.St}{Q:VK}{u:Value}{s:Shared}(h:EP X pins O (z9w Q) u s):EP X pins O Q u s:=by
 obtain ⟨v,H',I,r,a,xs,rfl,ha,q⟩:=h;obtain ⟨its,n,rv,e,_⟩:=I.lst ha;exact ⟨_,_,I.freeze ha e (by intro _ z;cases z) (by intro _ _ z;cases z) (by intro _ z;cases z) (by intro _ z;cases z),r,q _⟩
theorem OpR.freeze{X:Cx}{f:Value->Value->Sem Value}{r:R2}(h:OpR X f r):OpR X f (fun x y H Q=>r x y H (z9w Q)):=fun pins s O H x y v u Q I rx ry q=>thn (h pins s O H x y v u _ I rx ry q) fun _ _ z=>z.freeze
theorem xK.freeze{X:Cx}{f:Value}{r:List V->Hp->VK->Prop}(h:xK X f r):xK X f (fun xs H Q=>r xs H (z9w Q)):=fun pins s O H xs us Q I rs q=>thn (h pins s O H xs us _ I rs q) fun _ _ z=>z.freeze
theorem PE.freeze{X:Cx}{e:Expr}{t:TE}(h:PE X e t):PE X e (fun O H Q=>t O H (z9w Q)):=fun pins s O H Q I q=>thn (h pins s O H _ I q) fun _ _ z=>z.freeze
theorem SlR.freeze{X:Cx}{r:V->Option Int->Option Int->Hp->VK->Prop}(h:SlR X r):SlR X (fun x lo hi H Q=>r x lo hi H (z9w Q)):=fun pins s O H x v vl vu lo hi sl Q I rx hs pl pu q=>by
 obtain ⟨T,id,h1,h2,h3⟩:=h pins s O H x v vl vu lo hi sl _ I rx hs pl pu q;exact ⟨T,id,h1,h2,thn h3 fun _ _ z=>z.freeze⟩
section
variable {X:Cx}
theorem zeL:OpR X (binaryOp .Add) (fun x y H Q=>∃ l b xs zs,x=.ref l/\y=.ref b/\Rd H l (.lst xs)/\Rd H b (.lst zs)/\xs.length+zs.length<=sizeLine/\∀ p,H p=none->Q (.ref p) (upd H p (.lst (xs++zs)))):=by
 intro pins s O H x y v u Q I rx ry h;obtain ⟨l,b,xs,zs,rfl,rfl,hH,hB,hz,q⟩:=h;cases rx;cases ry;obtain ⟨z,its,n,r,e⟩:=hH.ok I.hok;obtain ⟨z2,its2,n2,r2,e2⟩:=hB.ok I.hok;have hl:=r.length;have hl2:=r2.length;refine PySem.P.add_list e e2 ?_ (by rw [_j,_j];omega);have ea:its.toArray++its2.toArray=(its++its2).toArray:=by simp
 rw [ea];exact ⟨.ref _,_,I.lnew (t':=s.toks) (r.append r2) (by rw [_X];omega),rfl,q _ I.fresh⟩
end
section
variable {X:Cx}
theorem zd7:OpR X (binaryOp .Add) (fun x y H Q=>∃ a b ys,x=.ref a/\y=.ref b/\SqT X.K H a []/\SqT X.K H b ys/\Q (.ref b) H):=by
 intro pins s O H x y v u Q I rx ry h;obtain ⟨a,b,ys,rfl,rfl,ha,hb,q⟩:=h;cases rx;cases ry;obtain ⟨its,r1,p1,_⟩:=I.tuple ha;obtain ⟨its2,r2,p2,_⟩:=I.tuple hb;cases r1;obtain ⟨⟨cls,dd,data,sl⟩,ho,hc,n,hd⟩:=id p1;obtain ⟨⟨cls2,dd2,data2,sl2⟩,ho2,hc2,n2,hd2⟩:=id p2;simp only at hc hd hc2 hd2;subst hc hd hc2 hd2;exact concat_meets ⟨_,ho,rfl⟩ ⟨_,ho2,rfl⟩ _c7 seq_tuple_add _bL _bH (_bx _ _) (tuple_addW0 a b _ _ n n2 dd dd2 sl sl2 (by simp)) ⟨ho,ho2,⟨.ref b,H,I,rfl,q⟩⟩
theorem zgr:SlR X (fun x lo hi H Q=>∃ a xs,x=.ref a/\SqT X.K H a xs/\(HT.sIx xs.length 0 lo=0/\HT.sIx xs.length xs.length hi=xs.length)/\Q (.ref a) H):=by
 intro pins s O H x v vl vu lo hi sl Q I rx hs pl pu h;obtain ⟨a,xs,rfl,hx,hw,q⟩:=h;cases rx;obtain ⟨its,r,ht,hz⟩:=I.tuple hx;have hlen:its.toArray.size=xs.length:=by rw [_j];exact r.length.symm
 refine ⟨"tuple",_,_aa.lookup,ht.typeIs,?_⟩;obtain ⟨os,hos,hcs,hds⟩:=id hs;have hTs:s.TypeIs (.ref sl) "slice":=⟨os,hos,hcs⟩;obtain ⟨oa,hoa,hca,na,hda⟩:=id ht;unfold getItem;try with_reducible refine _au ?_
 first | refine _a (_c ?_) | skip
 refine _a (wpAny_sequenceKey ht.typeIs (by decide) ?_);refine _a (_G (name:=Str.ofString "__getitem__") ht.typeIs _aa (_I _aa ht.typeIs entry_tuple_getitem ?_ (args_tuple_getitem _ _)));show wpAny _ _ (Builtin.Tuple.tupleItemsOf (.ref a) >>= _) _ _ s;refine _a (tupleItemsOf_ ht ?_);refine _a (wpAny_typeOf hTs ?_);rw [_f (by decide)];refine _a (HT.qp hs pl pu ?_);rw [hlen,hw.1,hw.2];show wpAny _ _ (if (((0:Nat):Int)==0&&(1:Int)==1&&(xs.length-0)==xs.length)=true then _ else _) _ _ s;rw [_f (by simp)];have hTa:s.TypeIs (.ref a) "tuple":=ht.typeIs;have fin:EP X pins O Q (.ref a) s:=⟨.ref a,H,I,rfl,q⟩;unfold Builtin.Tuple.tupleIsExact;refine _a (_a (wpAny_typeOf hTa (_c ?_)));rw [_f (by decide)];exact _a (_b0 (_c ⟨_,rfl,_c fin⟩))
end
end L2
namespace Dd
open L2
section
variable {mg:Gm}{H H' H1 H2:Hp}{Y Y' Y1 Y2:List Addr}{s s' s1 s2:Sto}
structure Kp(H H':Hp):Prop where
 k:∀ b o,H b=some o->(∀ vs,o≠.lst vs)->(∀ kvs,o≠.dT kvs)->H' b=some o
 l:∀ a,IsL H a->IsL H' a
 c:∀ a,IsC H a->IsC H' a
mutual
theorem Den.gen(k:Kp H H')(hi:∀ (l:Nat) a,Y[l]? = some a->Y'[l]? = some a):∀ {d:D}{v:V},Den mg H Y d v->Den mg H' Y' d v
 | .non,_,h=>by simpa [Den] using h | .bl _,_,h=>by simpa [Den] using h | .int _,_,h=>by simpa [Den] using h | .str _,_,h=>by simpa [Den] using h | .tup ds,v,h=>by
  simp only [Den] at h ⊢;obtain ⟨a,vs,e,h1,h2⟩:=h;exact ⟨a,vs,e,k.k a _ h1 (by intro vs z;cases z) (by intro vs z;cases z),zq.gen k hi h2⟩ | .lst ds,v,h=>by
  simp only [Den] at h ⊢;obtain ⟨a,o,vs,e,h1,h2⟩:=h;exact ⟨a,o,vs,e,k.k a _ h1 (by intro vs z;cases z) (by intro vs z;cases z),zq.gen k hi h2⟩ | .dct,v,h=>by
  simp only [Den] at h ⊢;obtain ⟨a,e,h1⟩:=h;exact ⟨a,e,k.k a _ h1 (by intro vs z;cases z) (by intro vs z;cases z)⟩ | .loc l,v,h=>by
  simp only [Den] at h ⊢;obtain ⟨a,e,h1,q⟩:=h;exact ⟨a,e,hi l a h1,k.l a q⟩ | .dlo l,v,h=>by
  simp only [Den] at h ⊢;obtain ⟨a,e,h1,q⟩:=h;exact ⟨a,e,hi l a h1,k.c a q⟩ | .fn _,_,h=>by simpa [Den] using h | .exc x,v,h=>by
  simp only [Den] at h ⊢;obtain ⟨a,C,e,h1,h2⟩:=h;exact ⟨a,C,e,h1,k.k a _ h2 (by intro vs z;cases z) (by intro vs z;cases z)⟩ | .scr ds,v,h=>by
  simp only [Den] at h ⊢;obtain ⟨a,vs,e,h1,h2⟩:=h;exact ⟨a,vs,e,h1.imp (fun ⟨o,h1⟩=>⟨o,k.k a _ h1 (by intro vs z;cases z) (by intro vs z;cases z)⟩) id,zq.gen k hi h2⟩
theorem zq.gen(k:Kp H H')(hi:∀ (l:Nat) a,Y[l]? = some a->Y'[l]? = some a):∀ {ds:List D}{vs:List V},zq mg H Y ds vs->zq mg H' Y' ds vs
 | [],_,h=>by simpa [zq] using h | d::ds,vs,h=>by
  simp only [zq] at h ⊢;obtain ⟨v,r,e,h1,h2⟩:=h;exact ⟨v,r,e,Den.gen k hi h1,zq.gen k hi h2⟩
end
theorem qN{p:Addr}{o:HO}(hp:H p=none):∀ b u,H b=some u->upd H p o b=some u:=fun b u h=>by rw [zx (yw h hp)];exact h
theorem Kp.new{p:Addr}{o:HO}(hp:H p=none):Kp H (upd H p o):=⟨fun b u h _ _=>qN hp b u h,fun a ⟨vs,e⟩=>⟨vs,qN hp a _ e⟩,fun a h=>h.imp (fun ⟨vs,e⟩=>⟨vs,qN hp a _ e⟩) fun ⟨o,vs,e⟩=>⟨o,vs,qN hp a _ e⟩⟩
theorem Kp.putL{a:Addr}{vs:List V}(h:IsL H a):Kp H (upd H a (.lst vs)):=by
 obtain ⟨ws,e⟩:=h;have ne:∀ {b u},H b=some u->(∀ vs,u≠.lst vs)->b≠a:=fun {b u} q n z=>by subst z;rw [e] at q;exact n ws (_K q).symm
 refine ⟨fun b o q n1 n2=>by rw [zx (ne q n1)];exact q,fun b ⟨us,q⟩=>?_,fun b h=>?_⟩
 ·by_cases z:b=a;·subst z;exact ⟨vs,zC⟩
  ·exact ⟨us,by rw [zx z];exact q⟩
 ·rcases h with ⟨us,q⟩ | ⟨o,us,q⟩;·exact .inl ⟨us,by rw [zx (ne q (by intro _ z;cases z))];exact q⟩
  ·exact .inr ⟨o,us,by rw [zx (ne q (by intro _ z;cases z))];exact q⟩
theorem Kp.putC{a:Addr}{u:HO}(h:∃ ws,H a=some (.dT ws))(hu:(∃ kvs,u=.dT kvs)\/∃ o kvs,u=.frz o (.dT kvs)):Kp H (upd H a u):=by
 obtain ⟨ws,e⟩:=h;have ne:∀ {b u},H b=some u->(∀ vs,u≠.dT vs)->b≠a:=fun {b u} q n z=>by subst z;rw [e] at q;exact n ws (_K q).symm
 refine ⟨fun b o q n1 n2=>by rw [zx (ne q n2)];exact q,fun b ⟨us,q⟩=>⟨us,by rw [zx (ne q (by intro _ z;cases z))];exact q⟩,fun b h=>?_⟩;by_cases z:b=a
 ·subst z;rcases hu with ⟨k,rfl⟩ | ⟨o,k,rfl⟩;·exact .inl ⟨k,zC⟩
  ·exact .inr ⟨o,k,zC⟩
 ·rcases h with ⟨us,q⟩ | ⟨o,us,q⟩;·exact .inl ⟨us,by rw [zx z];exact q⟩
  ·exact .inr ⟨o,us,by rw [zx z];exact q⟩
theorem uA.gen{xs:List D}{a:Addr}(k:Kp H H')(hi:∀ (l:Nat) a,Y[l]? = some a->Y'[l]? = some a)(e:H' a=H a)(h:uA mg H Y xs a):uA mg H' Y' xs a:=by
 rcases h with ⟨vs,h1,h2⟩ | ⟨kvs,h1,h2⟩ | ⟨o,kvs,ys,h1,h2⟩;·exact .inl ⟨vs,e.trans h1,h2.gen k hi⟩
 ·exact .inr (.inl ⟨kvs,e.trans h1,h2⟩)
 ·exact .inr (.inr ⟨o,kvs,ys,e.trans h1,h2⟩)
theorem uA.ne{xs:List D}{a p:Addr}(h:uA mg H Y xs a)(hp:H p=none):a≠p:=by
 rintro rfl;rcases h.kind with ⟨_,e⟩ | ⟨_,e⟩ | ⟨_,_,e⟩<;>rw [hp] at e<;>cases e
theorem Rep.notin{p:Addr}(r:Rep mg H Y s)(hp:H p=none):p∉Y:=fun z=>by rcases r.mt p z with ⟨_,e⟩ | ⟨_,e⟩ | ⟨_,_,e⟩<;>rw [hp] at e<;>cases e
theorem xr.lay{p:Addr}{o:HO}(r:Rep mg H Y s)(hp:H p=none)(ho:∀ vs,o≠.lst vs):xr mg H Y (upd H p o) Y s:= ⟨⟨r.len,r.nd,fun l xs h=>let ⟨a,h1,h2⟩:=r.cell l xs h;⟨a,h1,h2.gen (.new hp) (fun _ _ q=>q) (zx (h2.ne hp))⟩,r.flat⟩,_db _,fun b u h _=>qN hp b u h,fun a h1 h2=>absurd h1 h2,fun a ha=>(r.mt a ha).imp (fun h=>⟨h,(Kp.new hp).l a h⟩) fun h=>⟨h,(Kp.new hp).c a h,fun _ _ e=>qN hp a _ e⟩⟩
theorem xr.layC{p:Addr}{o:HO}{xs:List D}(r:Rep mg H Y s)(hp:H p=none)(hc:uA mg (upd H p o) (Y++[p]) xs p)(hf:D.flat.flats xs=true):xr mg H Y (upd H p o) (Y++[p]) (s++[xs]):=by
 have pn:p∉Y:=r.notin hp;have hi:∀ (l:Nat) a,Y[l]? = some a->(Y++[p])[l]? = some a:=fun l a h=>by rw [_o (_b.mp h).1];exact h
 refine ⟨⟨by simp [r.len],?_,fun l ys h=>?_,fun ys h=>?_⟩,List.prefix_append _ _,fun b u h _=>qN hp b u h,fun a h1 h2=>?_,fun a ha=>(r.mt a ha).imp (fun h=>⟨h,(Kp.new hp).l a h⟩) fun h=>⟨h,(Kp.new hp).c a h,fun _ _ e=>qN hp a _ e⟩⟩
 ·rw [_cO];exact ⟨r.nd,by simp,fun a ha b hb=>by
   have:b=p:=by simpa using hb
   subst this;exact fun z=>pn (z ▸ ha)⟩
 ·by_cases hl:l<s.length
  ·rw [_o hl] at h;obtain ⟨a,h1,h2⟩:=r.cell l ys h;exact ⟨a,hi l a h1,h2.gen (.new hp) hi (zx (h2.ne hp))⟩
  ·have h0:l=s.length:=by
    have:=(_b.mp h).1;simp at this;omega
   subst h0;simp at h;subst h;exact ⟨p,by rw [<- r.len];simp,hc⟩
 ·rcases _V.mp h with h | h;·exact r.flat ys h
  ·have:ys=xs:=by simpa using h
   rw [this];exact hf
 ·rcases _V.mp h1 with h | h;·exact absurd h h2
  ·have:a=p:=by simpa using h
   rw [this];exact hp
theorem xr.layL{p:Addr}{xs:List D}{vs:List V}(r:Rep mg H Y s)(hp:H p=none)(hd:zq mg H Y xs vs)(hf:D.flat.flats xs=true):xr mg H Y (upd H p (.lst vs)) (Y++[p]) (s++[xs]):= xr.layC r hp (.inl ⟨vs,zC,hd.gen (.new hp) fun l a h=>by rw [_o (_b.mp h).1];exact h⟩) hf
theorem xr.putC{l:Nat}{a:Addr}{o:HO}{xs:List D}(r:Rep mg H Y s)(ha:Y[l]? = some a)(k:Kp H (upd H a o))(hc:uA mg (upd H a o) Y xs a)(hf:D.flat.flats xs=true):xr mg H Y (upd H a o) Y (s.set l xs):=by
 have hai:a∈Y:=_A ha;have hll:l<s.length:=by rw [<- r.len];exact (_b.mp ha).1
 refine ⟨⟨by simp [r.len],r.nd,fun j ys h=>?_,fun ys h=>?_⟩,_db _,fun b u h hn=>?_,fun a h1 h2=>absurd h1 h2,fun b hb=>(r.mt b hb).imp (fun h=>⟨h,k.l b h⟩) fun h=>⟨h,k.c b h,fun _ _ e=>k.k b _ e (by intro _ z;cases z) (by intro _ z;cases z)⟩⟩
 ·by_cases hj:l=j
  ·subst hj;rw [_O hll] at h;cases h;exact ⟨a,ha,hc⟩
  ·rw [_C hj] at h;obtain ⟨b,h1,h2⟩:=r.cell j ys h;refine ⟨b,h1,h2.gen k (fun _ _ q=>q) (zx ?_)⟩;rintro rfl;have il:l<Y.length:=(_b.mp ha).1;have ij:j<Y.length:=(_b.mp h1).1;exact hj ((_br r.nd).mp (((_b.mp ha).2).trans ((_b.mp h1).2).symm))
 ·rcases List.mem_or_eq_of_mem_set h with h | h;·exact r.flat ys h
  ·rw [h];exact hf
 ·rw [zx (fun z=>by subst z;exact hn hai)];exact h
theorem xr.put{l:Nat}{a:Addr}{xs:List D}{vs:List V}(r:Rep mg H Y s)(ha:Y[l]? = some a)(ka:IsL H a)(hd:zq mg H Y xs vs)(hf:D.flat.flats xs=true):xr mg H Y (upd H a (.lst vs)) Y (s.set l xs):= xr.putC r ha (.putL ka) (.inl ⟨vs,zC,hd.gen (.putL ka) fun _ _ q=>q⟩) hf
def listOf(s:Sto):D->Option (List D)
 | .lst xs=>some xs | .loc l=>s[l]? | _=>none
def zW(s:Sto):D->Option (List D)
 | .tup xs=>some xs | .lst xs=>some xs | .scr xs=>some xs | .loc l=>s[l]? | _=>none
theorem zJ{d:D}{xs:List D}{v:V}(r:Rep mg H Y s)(h:listOf s d=some xs)(dn:Den mg H Y d v):∃ a vs,v=.ref a/\Rd H a (.lst vs)/\zq mg H Y xs vs:=by cases d with
 | lst ys=>
  simp only [listOf,_w] at h;subst h;simp only [Den] at dn;obtain ⟨a,o,vs,e,h1,h2⟩:=dn;exact ⟨a,vs,e,.inr ⟨o,h1⟩,h2⟩ | loc l=>
  simp only [Den] at dn;obtain ⟨a,e,h1,k⟩:=dn;obtain ⟨vs,h3,h4⟩:=r.at_ h h1 k;exact ⟨a,vs,e,.inl h3,h4⟩ | _=>simp [listOf] at h
theorem zef{xs:List D}{v:V}(dn:Den mg H Y (.scr xs) v):∃ a vs,v=.ref a/\SqL mg.K H a vs/\zq mg H Y xs vs:=by
 simp only [Den] at dn;obtain ⟨a,vs,e,h1,h2⟩:=dn;exact ⟨a,vs,e,h1.elim (fun ⟨o,h⟩=>.inl (.inr ⟨o,h⟩)) .inr,h2⟩
theorem je{K:W.Frag}{d:D}{xs:List D}{v:V}(r:Rep mg H Y s)(h:zW s d=some xs)(dn:Den mg H Y d v)(hK:mg.K=K:=by rfl):∃ a vs,v=.ref a/\(SqL K H a vs\/SqT K H a vs)/\zq mg H Y xs vs:=by cases d with
 | tup ys=>
  simp only [zW,_w] at h;subst h;simp only [Den] at dn;obtain ⟨a,vs,e,h1,h2⟩:=dn;exact ⟨a,vs,e,.inr (.inl (.inl h1)),h2⟩ | lst ys=>
  obtain ⟨a,vs,e,h1,h2⟩:=zJ (d:=.lst ys) r h dn;exact ⟨a,vs,e,.inl (.inl h1),h2⟩ | scr ys=>
  simp only [zW,_w] at h;subst h;subst hK;obtain ⟨a,vs,e,h1,h2⟩:=zef dn;exact ⟨a,vs,e,.inl h1,h2⟩ | loc l=>
  obtain ⟨a,vs,e,h1,h2⟩:=zJ (d:=.loc l) r h dn;exact ⟨a,vs,e,.inl (.inl h1),h2⟩ | _=>simp [zW] at h
theorem qS{K:W.Frag}{xs:List D}{v:V}(dn:Den mg H Y (.tup xs) v):∃ a vs,v=.ref a/\SqT K H a vs/\zq mg H Y xs vs:=by
 simp only [Den] at dn;obtain ⟨a,vs,e,h1,h2⟩:=dn;exact ⟨a,vs,e,.inl (.inl h1),h2⟩
end
def cap:Nat:=100000
theorem uj{n:Nat}(h:n<=cap):n<=sizeLine:=_U h (by decide)
theorem ziN{n:Nat}(h:n<cap):n<sizeLine:=_r h (by decide)
def BIG:Nat:=2 ^ 4096
def qr:D->D->Sto->R D
 | .int i,.int j,s=>.ok (.int (i+j)) s | .tup a,.tup b,s=>if a.length+b.length<=cap then .ok (.tup (a++b)) s else .no | x,y,s=>match listOf s x,listOf s y with
  | some a,some b=>if a.length+b.length<=cap then .ok (.lst (a++b)) s else .no | _,_=>.no
section
variable {X:Cx}{E:XK}
theorem zQ{mg:Gm}{H:Hp}{Y:List Addr}{i:Int}{v:V}(h:Den mg H Y (.int i) v):v=.int i:=by simpa [Den] using h
theorem uw{mg:Gm}{H:Hp}{Y:List Addr}{i:Bool}{v:V}(h:Den mg H Y (.bl i) v):v=.bl i:=by simpa [Den] using h
theorem uG{mg:Gm}{H:Hp}{Y:List Addr}{i:Str}{v:V}(h:Den mg H Y (.str i) v):v=.str i:=by simpa [Den] using h
theorem yn{mg:Gm}{H:Hp}{Y:List Addr}{i:Int}:Den mg H Y (.int i) (.int i):=by simp [Den]
theorem yX{mg:Gm}{H:Hp}{Y:List Addr}{i:Bool}:Den mg H Y (.bl i) (.bl i):=by simp [Den]
theorem kb{mg:Gm}{H:Hp}{Y:List Addr}{s:Sto}{xs:List D}{vs:List V}{Q:VK}(r:Rep mg H Y s)(h:okR mg E H Y (Den mg) (.ok (.lst xs) s) Q)(hd:zq mg H Y xs vs):∀ p,H p=none->z9w Q (.ref p) (upd H p (.lst vs)):=fun p hp=>by
 refine ⟨p,vs,rfl,zC,fun o=>?_⟩;rw [zfa];have stp:=xr.lay (o:=.frz o (.lst vs)) r hp (by intro _ z;cases z);refine h _ _ _ stp ?_;simp only [Den];exact ⟨p,o,vs,rfl,zC,hd.mono stp⟩
theorem z3t{mg:Gm}{H:Hp}{Y:List Addr}{s:Sto}{xs:List D}{vs:List V}{Q:VK}(r:Rep mg H Y s)(h:okR mg E H Y (Den mg) (.ok (.tup xs) s) Q)(hd:zq mg H Y xs vs):∀ p,H p=none->Q (.ref p) (upd H p (.tup vs)):=fun p hp=>by
 have stp:=xr.lay (o:=.tup vs) r hp (by intro _ z;cases z);refine h _ _ _ stp ?_;simp only [Den];exact ⟨p,vs,rfl,zC,hd.mono stp⟩
theorem vC:∃ r,OpR X (binaryOp .Add) r/\OpF X E r qr:=by
 refine ⟨_,zhV.or ((zd7).or ((zfn).or (zeL.freeze))),?_⟩;intro H Y s d1 d2 v1 v2 Q r h1 h2 h;have lists:∀ a b,listOf s d1=some a->listOf s d2=some b->okR (gm X) E H Y (Den (gm X)) (if a.length+b.length<=cap then R.ok (D.lst (a++b)) s else .no) Q-> ∃ l b xs zs,v1=.ref l/\v2=.ref b/\Rd H l (.lst xs)/\Rd H b (.lst zs)/\xs.length+zs.length<=sizeLine/\∀ p,H p=none->z9w Q (.ref p) (upd H p (.lst (xs++zs))):=fun a b ha hb hq=>by
  obtain ⟨l,vs,e,q1,q2⟩:=zJ r ha h1;obtain ⟨l',vs',e',q1',q2'⟩:=zJ r hb h2;split at hq
  ·rename_i hl;exact ⟨l,l',vs,vs',e,e',q1,q1',by rw [q2.length,q2'.length];exact uj hl,kb r hq (q2.append q2')⟩
  ·exact hq.elim
 unfold qr at h;split at h
 ·rename_i i j;cases zQ h1;cases zQ h2;exact .inl ⟨i,j,rfl,rfl,h.here r yn⟩
 ·rename_i a b;obtain ⟨l,vs,rfl,q1,q2⟩:=qS (K:=X.K) h1;obtain ⟨l',vs',rfl,q1',q2'⟩:=qS (K:=X.K) h2;split at h
  ·rename_i hl;cases a with
   | nil=>
    simp only [zq] at q2;subst q2;exact .inr (.inl ⟨l,l',vs',rfl,rfl,q1,q1',h.here r h2⟩) | cons x a=>
    have ne:vs≠[]:=fun z=>by have:=q2.length;rw [z] at this;simp at this
    refine .inr (.inr (.inl ⟨l,l',vs,vs',rfl,rfl,q1,q1',ne,by rw [q2.length,q2'.length];exact uj hl,fun z=>?_,fun z=>z3t r h (q2.append q2')⟩));have eb:b=[]:=by
     have:=q2'.length;rw [z] at this;exact _aN.mp this.symm
    subst eb;rw [_aP] at h;exact h.here r h1
  ·exact h.elim
 ·split at h
  ·rename_i a b ha hb;exact .inr (.inr (.inr (lists a b ha hb h)))
  ·exact h.elim
end
def dII(g:Int->Int->R D):D->D->Sto->R D
 | .int i,.int j,s=>match g i j with | .ok d _=>.ok d s | _=>.no
 | _,_,_=>.no
def iOk(d:D):R D:=.ok d []
def z9U:D->D->Sto->R D:=dII fun i j=>iOk (.int (i-j))
def uo:D->D->Sto->R D:=dII fun i j=>if i.natAbs<BIG/\j.natAbs<BIG then iOk (.int (i*j)) else .no
def z4n:D->D->Sto->R D:=dII fun i j=>if 0<j/\j.natAbs<BIG then iOk (.int (i / j)) else .no
def zaR:D->D->Sto->R D:=dII fun i j=>if 0<j then iOk (.int (i % j)) else .no
def zaS:D->D->Sto->R D:=dII fun i j=>if 0<=j/\j<=1000/\i.natAbs<1000 then iOk (.int (i ^ j.toNat)) else .no
def dLt:D->D->Sto->R D:=dII fun i j=>iOk (.bl (decide (i<j)))
def dLe:D->D->Sto->R D:=dII fun i j=>iOk (.bl (decide (i<=j)))
def dGt:D->D->Sto->R D:=dII fun i j=>iOk (.bl (decide (j<i)))
def dGe:D->D->Sto->R D:=dII fun i j=>iOk (.bl (decide (j<=i)))
section
variable {X:Cx}{E:XK}
theorem kJ{g:Int->Int->R D}{r:R2}(h:∀ i j d t H Q,g i j=.ok d t->(∀ v,(∀ H Y,Den (gm X) H Y d v)->Q v H)->r (.int i) (.int j) H Q):OpF X E r (dII g):=by
 intro H Y s d1 d2 v1 v2 Q rp h1 h2 hq;unfold dII at hq;split at hq
 ·rename_i i j;cases zQ h1;cases zQ h2;split at hq
  ·rename_i d t e;exact h i j d t H Q e fun v hv=>hq.here rp (hv H Y)
  ·exact hq.elim
 ·exact hq.elim
theorem zd0:∃ r,OpR X (binaryOp .Sub) r/\OpF X E r z9U:=⟨_,zh1,kJ fun i j d t H Q e q=>by
 simp only [iOk,R.ok.injEq] at e;exact ⟨i,j,rfl,rfl,q _ (by intro H Y;rw [<- e.1];exact yn)⟩⟩
theorem z8n{i:Int}(h:i.natAbs<BIG):Builtin.Int.intBits i<=2 ^ 20:=by
 have q:Builtin.Int.intBits i<=4096:=(PySem.intBits_le_iff (m:=4096)).mpr h;omega
theorem zgm:OpR X (binaryOp .Mult) (rI (fun i j=>i.natAbs<BIG/\j.natAbs<BIG) fun i j=>.int (i*j)):=opI fun _ _ _ _ _ _ _ hc q=>mul_int q (IntMulOk.of_bits (z8n hc.1) (z8n hc.2))
theorem z28:∃ r,OpR X (binaryOp .Mult) r/\OpF X E r uo:=⟨_,zgm,kJ fun i j d t H Q e q=>by
 split at e
 ·rename_i hc;simp only [iOk,R.ok.injEq] at e;exact ⟨i,j,rfl,rfl,hc,q _ (by intro H Y;rw [<- e.1];exact yn)⟩
 ·cases e⟩
theorem zfd{j:Int}(h:j.natAbs<BIG):j.natAbs.log2<9000:=by
 by_cases h0:j.natAbs=0;·rw [h0];decide +kernel
 ·have:j.natAbs.log2<4096:=(Nat.log2_lt h0).mpr h;omega
theorem zdk:OpR X (binaryOp .FloorDiv) (rI (fun _ j=>0<j/\j.natAbs<BIG) fun i j=>.int (i / j)):=opI fun i j _ _ _ _ _ hc q=>by
 refine floordiv_int (by omega) ?_ (.inl (PyProof.noPylong_of_log2 (zfd hc.2)));rw [Int.fdiv_eq_ediv_of_nonneg _ (by omega)];exact q
theorem zbd:∃ r,OpR X (binaryOp .FloorDiv) r/\OpF X E r z4n:=⟨_,zdk,kJ fun i j d t H Q e q=>by
 split at e
 ·rename_i hc;simp only [iOk,R.ok.injEq] at e;exact ⟨i,j,rfl,rfl,hc,q _ (by intro H Y;rw [<- e.1];exact yn)⟩
 ·cases e⟩
theorem zcP:∃ r,OpR X (binaryOp .Mod) r/\OpF X E r zaR:=⟨_,zhd,kJ fun i j d t H Q e q=>by
 split at e
 ·rename_i hc;simp only [iOk,R.ok.injEq] at e;exact ⟨i,j,rfl,rfl,hc,q _ (by intro H Y;rw [<- e.1];exact yn)⟩
 ·cases e⟩
theorem zcY:∃ r,OpR X (binaryOp .Pow) r/\OpF X E r zaS:=⟨_,ziz,kJ fun i j d t H Q e q=>by
 split at e
 ·rename_i hc;simp only [iOk,R.ok.injEq] at e;exact ⟨i,j,rfl,rfl,⟨hc.1,by omega,by omega⟩,q _ (by intro H Y;rw [<- e.1];exact yn)⟩
 ·cases e⟩
theorem zlS:∃ r,OpR X (compareOp .Lt) r/\OpF X E r dLt:=⟨_,zkw,kJ fun i j d t H Q e q=>by
 simp only [iOk,R.ok.injEq] at e;exact ⟨i,j,rfl,rfl,q _ (by intro H Y;rw [<- e.1];exact yX)⟩⟩
theorem zgF:∃ r,OpR X (compareOp .LtE) r/\OpF X E r dLe:=⟨_,zjq,kJ fun i j d t H Q e q=>by
 simp only [iOk,R.ok.injEq] at e;exact ⟨i,j,rfl,rfl,q _ (by intro H Y;rw [<- e.1];exact yX)⟩⟩
theorem ziT:∃ r,OpR X (compareOp .Gt) r/\OpF X E r dGt:=⟨_,zk1,kJ fun i j d t H Q e q=>by
 simp only [iOk,R.ok.injEq] at e;exact ⟨i,j,rfl,rfl,q _ (by intro H Y;rw [<- e.1];exact yX)⟩⟩
theorem zl5:∃ r,OpR X (compareOp .GtE) r/\OpF X E r dGe:=⟨_,zk9,kJ fun i j d t H Q e q=>by
 simp only [iOk,R.ok.injEq] at e;exact ⟨i,j,rfl,rfl,q _ (by intro H Y;rw [<- e.1];exact yX)⟩⟩
end
mutual
def ki:D->PyData
 | .non=>.none | .bl b=>.bool b | .int i=>.int i | .str x=>.str x | .tup xs=>.tuple (toPys xs) | .lst xs=>.list (toPys xs) | _=>.dict []
def toPys:List D->List PyData
 | []=>[] | d::ds=>ki d::toPys ds
end
def eqD(a b:D):Bool:=PyData.eqv (ki a) (ki b)
def zbn(d:D):Bool:=SeqAt.shaped (ki d)
def dEq(x y:D)(s:Sto):R D:=if zbn x=true/\zbn y=true then .ok (.bl (eqD x y)) s else .no
def dNe(x y:D)(s:Sto):R D:=if zbn x=true/\zbn y=true then .ok (.bl (!eqD x y)) s else .no
section
variable {P:Program}{w:World}{mg:Gm}{H:Hp}{Y:List Addr}{h:Heap}
mutual
theorem Den.reads(ok:HOk P w H h):∀ {d:D}{v:V}{u:Value},PyData.canLay0 (ki d)=true->Den mg H Y d v->yu v u->∃ as,Reads h u (ki d) as
 | .non,_,_,_,dn,r=>by simp only [Den] at dn;subst dn;cases r;exact ⟨_,by simpa [ki] using Reads.none⟩ | .bl b,_,_,_,dn,r=>by simp only [Den] at dn;subst dn;cases r;exact ⟨_,by simpa [ki] using Reads.bool b⟩ | .int i,_,_,_,dn,r=>by simp only [Den] at dn;subst dn;obtain ⟨t,rfl⟩:=r;exact ⟨_,by simpa [ki] using Reads.int i t⟩ | .str x,_,_,_,dn,r=>by simp only [Den] at dn;subst dn;obtain ⟨t,rfl⟩:=r;exact ⟨_,by simpa [ki] using Reads.str x t⟩ | .tup ds,_,_,c,dn,r=>by
  simp only [Den] at dn;obtain ⟨a,vs,rfl,h1,h2⟩:=dn;cases r;obtain ⟨_,its,rv,o,e,hc,_,n,hd⟩:=ok a _ h1;obtain ⟨as,q⟩:=zq.reads ok (by simpa [ki,PyData.canLay0] using c) h2 rv;rw [ki];exact ⟨as,Reads.tuple e hc hd (by simpa using q)⟩ | .lst ds,_,_,c,dn,r=>by
  simp only [Den] at dn;obtain ⟨a,o,vs,rfl,h1,h2⟩:=dn;cases r;obtain ⟨_,_,its,n,rv,e⟩:=ok a _ h1;obtain ⟨as,q⟩:=zq.reads ok (by simpa [ki,PyData.canLay0] using c) h2 rv;rw [ki];exact ⟨_,Reads.list e rfl rfl (by simpa using q)⟩ | .dct,_,_,c,_,_=>by simp [ki,PyData.canLay0] at c | .loc _,_,_,c,_,_=>by simp [ki,PyData.canLay0] at c | .fn _,_,_,c,_,_=>by simp [ki,PyData.canLay0] at c | .exc _,_,_,c,_,_=>by simp [ki,PyData.canLay0] at c
theorem zq.reads(ok:HOk P w H h):∀ {ds:List D}{vs:List V}{us:List Value},PyData.canLayAll0 (toPys ds)=true->zq mg H Y ds vs->ym vs us->∃ as,ReadsAll h us (toPys ds) as
 | [],_,_,_,dn,r=>by simp only [zq] at dn;subst dn;cases r;exact ⟨_,by simpa [toPys] using ReadsAll.nil⟩ | d::ds,_,_,c,dn,r=>by
  simp only [zq] at dn;obtain ⟨v,vs,rfl,h1,h2⟩:=dn;simp only [toPys,PyData.canLayAll0,_E] at c;cases r with | cons r1 r2=>
   obtain ⟨as,q⟩:=Den.reads ok c.1 h1 r1;obtain ⟨bs,q'⟩:=zq.reads ok c.2 h2 r2;rw [toPys];exact ⟨_,ReadsAll.cons q q'⟩
end
end
section
variable {X:Cx}{E:XK}
def zkZ(mg:Gm)(neg:Bool):R2:=fun x y H Q=>∃ Y d1 d2,Den mg H Y d1 x/\Den mg H Y d2 y/\zbn d1=true/\zbn d2=true/\Q (.bl (if neg then !eqD d1 d2 else eqD d1 d2)) H
theorem zih(hu:X.A.units+64<cLine):OpR X (compareOp .Eq) (zkZ (gm X) false):=by
 intro pins s O H x y v u Q I rx ry ⟨Y,d1,d2,h1,h2,p1,p2,q⟩;obtain ⟨as,ra⟩:=Den.reads I.hok (_aD p1) h1 rx;obtain ⟨bs,rb⟩:=Den.reads I.hok (_aD p2) h2 ry;exact SeqAt.compareEq_shaped ra rb p1 p2 hu ⟨.bl (eqD d1 d2),H,I,rfl,q⟩
theorem ziX(hu:X.A.units+64<cLine):OpR X (compareOp .NotEq) (zkZ (gm X) true):=by
 intro pins s O H x y v u Q I rx ry ⟨Y,d1,d2,h1,h2,p1,p2,q⟩;obtain ⟨as,ra⟩:=Den.reads I.hok (_aD p1) h1 rx;obtain ⟨bs,rb⟩:=Den.reads I.hok (_aD p2) h2 ry;exact SeqAt.compareNe_shaped ra rb p1 p2 hu ⟨.bl (!eqD d1 d2),H,I,rfl,q⟩
theorem z5q(hu:X.A.units+64<cLine):∃ r,OpR X (compareOp .Eq) r/\OpF X E r dEq:=⟨_,zih hu,fun H Y s d1 d2 v1 v2 Q r h1 h2 h=>by
 unfold dEq at h;split at h
 ·rename_i hc;exact ⟨Y,d1,d2,h1,h2,hc.1,hc.2,h.here r yX⟩
 ·exact h.elim⟩
theorem z9v(hu:X.A.units+64<cLine):∃ r,OpR X (compareOp .NotEq) r/\OpF X E r dNe:=⟨_,ziX hu,fun H Y s d1 d2 v1 v2 Q r h1 h2 h=>by
 unfold dNe at h;split at h
 ·rename_i hc;exact ⟨Y,d1,d2,h1,h2,hc.1,hc.2,h.here r yX⟩
 ·exact h.elim⟩
def z3r:D->Option V
 | .non=>some .non | .bl b=>some (.bl b) | .int i=>some (.int i) | .str x=>some (.str x) | _=>none
theorem z63{mg:Gm}{H:Hp}{Y:List Addr}{d:D}{v w:V}(h:z3r d=some w)(dn:Den mg H Y d v):v=w/\z37 v=true:=by cases d<;>simp only [z3r,_w,reduceCtorEq] at h<;>(simp only [Den] at dn;subst dn;subst h;exact ⟨rfl,rfl⟩)
def jT:List D->Option (List V)
 | []=>some [] | d::ds=>match z3r d,jT ds with | some v,some vs=>some (v::vs) | _,_=>none
theorem z3B{mg:Gm}{H:Hp}{Y:List Addr}:∀ {ds:List D}{vs ws:List V},jT ds=some ws->zq mg H Y ds vs->vs=ws/\vs.all z37=true
 | [],_,_,h,dn=>by simp only [jT,_w] at h;simp only [zq] at dn;subst dn;subst h;exact ⟨rfl,rfl⟩ | d::ds,_,_,h,dn=>by
  simp only [zq] at dn;obtain ⟨v,vs,rfl,h1,h2⟩:=dn;simp only [jT] at h;split at h
  ·rename_i w ws e1 e2;cases h;obtain ⟨a1,a2⟩:=z63 e1 h1;obtain ⟨b1,b2⟩:=z3B e2 h2;exact ⟨by rw [a1,b1],by rw [List.all_cons,a2,b2];rfl⟩
  ·cases h
def zc1(neg:Bool)(x y:D)(s:Sto):R D:=match z3r x,(zW s y).bind jT with
 | some v,some vs=>.ok (.bl (if neg then !inV v vs else inV v vs)) s | _,_=>.no
theorem ziJ{neg:Bool}:OpF X E (rIn X.K neg) (zc1 neg):=fun H Y s d1 d2 v1 v2 Q r h1 h2 h=>by
 unfold zc1 at h;split at h
 ·rename_i v vs e1 e2;cases e3:zW s d2 with
  | none=>rw [e3] at e2;cases e2 | some xs=>
   rw [e3] at e2;obtain ⟨a,ws,rfl,q1,q2⟩:=je (K:=X.K) r e3 h2;obtain ⟨b1,b2⟩:=z3B e2 q2;obtain ⟨a1,a2⟩:=z63 e1 h1;subst a1 b1;exact ⟨a,ws,rfl,q1,a2,b2,h.here r yX⟩
 ·exact h.elim
theorem zl0:∃ r,OpR X (compareOp .In) r/\OpF X E r (zc1 false):=⟨_,zbC,ziJ⟩
def dIs:D->D->Sto->R D
 | .bl a,.bl b,s=>.ok (.bl (a==b)) s | .non,.non,s=>.ok (.bl true) s | .bl _,.non,s=>.ok (.bl false) s | .int _,.non,s=>.ok (.bl false) s | .str _,.non,s=>.ok (.bl false) s | .tup _,.non,s=>.ok (.bl false) s | .lst _,.non,s=>.ok (.bl false) s | _,_,_=>.no
theorem ziE:OpR X (compareOp .Is) (fun x y H Q=>∃ a b,x=.bl a/\y=.bl b/\Q (.bl (a==b)) H):=by
 intro pins s O H x y v u Q I rx ry ⟨a,b,e1,e2,q⟩;subst e1 e2;cases rx;cases ry;exact is_bool ⟨.bl (a==b),H,I,rfl,q⟩
theorem zle:∃ r,OpR X (compareOp .Is) r/\OpF X E r dIs:=⟨_,ziE.or zgO,fun H Y s d1 d2 v1 v2 Q r h1 h2 h=>by
 unfold dIs at h;split at h
 ·cases uw h1;cases uw h2;exact .inl ⟨_,_,rfl,rfl,h.here r yX⟩
 ·simp only [Den] at h1 h2;subst h1 h2;exact .inr ⟨rfl,by have:=h.here r yX;simpa using this⟩
 ·simp only [Den] at h1 h2;subst h1 h2;exact .inr ⟨rfl,by have:=h.here r yX;simpa using this⟩
 ·simp only [Den] at h1 h2;subst h1 h2;exact .inr ⟨rfl,by have:=h.here r yX;simpa using this⟩
 ·simp only [Den] at h1 h2;subst h1 h2;exact .inr ⟨rfl,by have:=h.here r yX;simpa using this⟩
 ·simp only [Den] at h1 h2;obtain ⟨a,vs,rfl,_⟩:=h1;subst h2;exact .inr ⟨rfl,by have:=h.here r yX;simpa using this⟩
 ·simp only [Den] at h1 h2;obtain ⟨a,o,vs,rfl,_⟩:=h1;subst h2;exact .inr ⟨rfl,by have:=h.here r yX;simpa using this⟩
 ·exact h.elim⟩
def dIx(x y:D)(s:Sto):R D:=match y,zW s x with
 | .int i,some xs=>match atI xs i with | some d=>.ok d s | none=>.no
 | _,_=>.no
theorem zcy{mg:Gm}{H:Hp}{Y:List Addr}{xs:List D}{vs:List V}{i:Int}{d:D}(h:zq mg H Y xs vs)(e:atI xs i=some d):∃ v,atI vs i=some v/\Den mg H Y d v:=by
 unfold atI at e ⊢;rw [h.length];cases q:ixN xs.length i with
 | none=>rw [q] at e;cases e | some j=>
  rw [q] at e;exact h.get e
theorem zlU:∃ r,IxR X r/\OpF X E r dIx:=⟨_,zfv.or zi7,fun H Y s d1 d2 v1 v2 Q r h1 h2 h=>by
 unfold dIx at h;split at h
 ·rename_i i xs e;split at h
  ·rename_i d e2;cases zQ h2;obtain ⟨a,vs,rfl,q1,q2⟩:=je (K:=X.K) r e h1;obtain ⟨v,e3,e4⟩:=zcy q2 e2;rcases q1 with q1 | q1;·exact .inl ⟨a,vs,i,v,rfl,rfl,q1,e3,h.here r e4⟩
   ·exact .inr ⟨a,vs,i,v,rfl,rfl,q1,e3,h.here r e4⟩
  ·exact h.elim
 ·exact h.elim⟩
end
section
variable {X:Cx}{E:XK}{e a b c:Expr}{es:List Expr}{pos:Pos}
theorem yd{op:Operator}{fo:D->D->Sto->R D}{fa fb:FE}(ho:∃ r,OpR X (binaryOp op) r/\OpF X E r fo)(ha:RE X E a fa)(hb:RE X E b fb):RE X E (.BinOp a op b pos) (eOp fo fa fb):=let ⟨_,h⟩:=ho;zlo h ha hb
theorem jw{op:CmpOp}{fo:D->D->Sto->R D}{fa fb:FE}(ho:∃ r,OpR X (compareOp op) r/\OpF X E r fo)(ha:RE X E a fa)(hb:RE X E b fb)(hm:behindInMarks op b=false:=by first | exact zex _ | rfl):RE X E (.Compare a [op] [b] pos) (eOp fo fa fb):=let ⟨_,h⟩:=ho;zjp h ha hb hm
def tOf(f:FE):FT:=fun Z s=>(f Z s).bind fun d s1=>match d with | .bl k=>.ok k s1 | _=>.no
theorem z3J{f:FE}{O:L2.St}{H:Hp}{Q:Bool->Hp->Prop}(h:tT (gm X) E (tOf f) O H Q):zfA (tE (gm X) E f) O H Q:=by
 obtain ⟨Y,Z,s,r,en,h⟩:=h;refine zB (k:=fun Z d s1=>match d with | .bl k=>.ok k s1 | _=>.no) r en h _ fun v H1 Y1 s1 d r1 en1 dn stp h1=>?_;cases d with
 | bl k=>
  cases uw dn;exact ⟨k,rfl,h1.here (b:=k) r1 rfl⟩ | _=>exact h1.elim
theorem yb{op:CmpOp}{fo:D->D->Sto->R D}{fa fb:FE}(ho:∃ r,OpR X (compareOp op) r/\OpF X E r fo)(ha:RE X E a fa)(hb:RE X E b fb)(hm:behindInMarks op b=false:=by first | exact zex _ | rfl):RT X E (.Compare a [op] [b] pos) (tOf (eOp fo fa fb)):=by
 obtain ⟨r,h1,h2⟩:=ho;exact z8x (zfp h1 ha hb hm) fun O H Q h=>by
  have q:=z3J h;exact z8A h2 q
def kS(fo fo':D->D->Sto->R D)(fa fb fc:FE):FE:=fun Z s=>(fa Z s).bind fun x s1=>(fb Z s1).bind fun y s2=>(fo x y s2).bind fun z s3=>match z with
 | .bl true=>(fc Z s3).bind fun w s4=>fo' y w s4 | .bl false=>.ok (.bl false) s3 | _=>.no
theorem z5Q{r r':R2}{fo fo':D->D->Sto->R D}{fa fb fc:FE}(ho:OpF X E r fo)(ho':OpF X E r' fo'){O:L2.St}{H:Hp}{Q:VK}(h:tE (gm X) E (kS fo fo' fa fb fc) O H Q):za8 r r' (tE (gm X) E fa) (tE (gm X) E fb) (tE (gm X) E fc) O H Q:=by
 obtain ⟨Y,Z,s,rp,en,h⟩:=h;refine zB (k:=fun Z x s1=>(fb Z s1).bind fun y s2=>(fo x y s2).bind fun z s3=>match z with
  | .bl true=>(fc Z s3).bind fun w s4=>fo' y w s4 | .bl false=>.ok (.bl false) s3 | _=>.no) rp en h _ fun v H1 Y1 s1 d r1 en1 dn stp h1=>?_;refine zB (k:=fun Z y s2=>(fo d y s2).bind fun z s3=>match z with
  | .bl true=>(fc Z s3).bind fun w s4=>fo' y w s4 | .bl false=>.ok (.bl false) s3 | _=>.no) r1 en1 h1 _ fun v2 H2 Y2 s2 d2 r2 en2 dn2 stp2 h2=>?_;refine ho H2 Y2 s2 d d2 v v2 _ r2 (dn.mono stp2) dn2 ((okR.bind (Dn:=Den (gm X)) h2).imp fun v3 H3 ⟨Y3,s3,d3,stp3,dn3,h3⟩=>?_);cases d3 with
 | bl k=>
  cases uw dn3;refine ⟨k,rfl,?_⟩;cases k with
  | true=>
   rw [_f rfl];refine zB (k:=fun Z w s4=>fo' d2 w s4) stp3.rep (en2.mono stp3) h3 _ fun v4 H4 Y4 s4 d4 r4 en4 dn4 stp4 h4=>?_;exact ho' H4 Y4 s4 d2 d4 v2 v4 Q r4 ((dn2.mono stp3).mono stp4) dn4 h4 | false=>
   rw [_q (by decide)];exact okR.here (b:=V.bl false) h3 stp3.rep yX
 | _=>exact h3.elim
theorem zfQ{op op':CmpOp}{fo fo':D->D->Sto->R D}{fa fb fc:FE}(ho:∃ r,OpR X (compareOp op) r/\OpF X E r fo)(ho':∃ r,OpR X (compareOp op') r/\OpF X E r fo')(ha:RE X E a fa)(hb:RE X E b fb)(hc:RE X E c fc) (hm:lastMarks [op,op'] [b,c]=false:=by with_unfolding_all rfl):RE X E (.Compare a [op,op'] [b,c] pos) (kS fo fo' fa fb fc):=by
 obtain ⟨r,h1,h2⟩:=ho;obtain ⟨r',h1',h2'⟩:=ho';exact zE (zd6 h1 h1' ha hb hc hm) fun O H Q h=>z5Q h2 h2' h
def zc4(fa fb:FE):FE:=fun Z s=>(fa Z s).bind fun x s1=>match x with | .bl true=>fb Z s1 | .bl false=>.ok (.bl false) s1 | _=>.no
def zjj(fa:FE):FE:=fun Z s=>(fa Z s).bind fun x s1=>match x with | .bl k=>.ok (.bl (!k)) s1 | _=>.no
variable {uh:List Expr}
theorem z5S{op:BoolOp}{f:FE}(h:RE X E a f):RE X E (.BoolOp op [a] pos) f:=zhy h
theorem z6g{fa fb:FE}(ha:RE X E a fa)(hb:RE X E (.BoolOp .And (b::uh) pos) fb):RE X E (.BoolOp .And (a::b::uh) pos) (zc4 fa fb):= zE (zgR ha hb) fun O H Q ⟨Y,Z,s,r,en,h⟩=>by
  refine zB (k:=fun Z x s1=>match x with | .bl true=>fb Z s1 | .bl false=>.ok (.bl false) s1 | _=>.no) r en h _ fun v H1 Y1 s1 d r1 en1 dn stp h1=>?_;cases d with
  | bl k=>
   cases uw dn;refine ⟨k,rfl,?_⟩;cases k with
   | true=>rw [_f rfl];exact ⟨Y1,Z,s1,r1,en1,h1⟩ | false=>rw [_q (by decide)];exact okR.here (b:=V.bl false) h1 r1 yX
  | _=>exact h1.elim
theorem zhx{fa:FE}(ha:RE X E a fa):RE X E (.UnaryOp .Not a pos) (zjj fa):= zE (ziC ha) fun O H Q ⟨Y,Z,s,r,en,h⟩=>by
  refine zB (k:=fun Z x s1=>match x with | .bl k=>R.ok (D.bl (!k)) s1 | _=>.no) r en h _ fun v H1 Y1 s1 d r1 en1 dn stp h1=>?_;cases d with
  | bl k=>
   cases uw dn;exact ⟨k,rfl,okR.here (b:=V.bl (!k)) h1 r1 yX⟩ | _=>exact h1.elim
def zfg(fa fb:FT):FT:=fun Z s=>(fa Z s).bind fun x s1=>if x=true then fb Z s1 else .ok false s1
def fOr(fa fb:FT):FT:=fun Z s=>(fa Z s).bind fun x s1=>if x=true then .ok true s1 else fb Z s1
def z1c(fa:FT):FT:=fun Z s=>(fa Z s).bind fun x s1=>.ok (!x) s1
def RW(X:Cx)(E:XK)(e:Expr)(f:FT):Prop:=PW X e (tT (gm X) E f)
theorem RW.rt{f:FT}(h:RW X E e f):RT X E e f:=PW.pt h
theorem ze6{t t':TT}(h:PW X e t)(i:∀ O H Q,t' O H Q->t O H Q):PW X e t':=fun wh pins s O H Q I q=>h wh pins s O H Q I (i O H Q q)
theorem ze8{f:FT}(h:RT X E a f):RW X E (.BoolOp .And [a] pos) f:=zg0 h
theorem z7d{f:FT}(h:RT X E a f):RW X E (.BoolOp .Or [a] pos) f:=zhP h
theorem w_and{fa fb:FT}(ha:RT X E a fa)(hb:RW X E (.BoolOp .And (b::uh) pos) fb):RW X E (.BoolOp .And (a::b::uh) pos) (zfg fa fb):= ze6 (zhO ha hb) fun O H Q ⟨Y,Z,s,r,en,h⟩=>by
  refine z24 (k:=fun Z x s1=>if x=true then fb Z s1 else .ok false s1) r en h _ fun v H1 Y1 s1 r1 en1 stp h1=>?_;cases v with
  | true=>rw [_f rfl] at h1 ⊢;exact ⟨Y1,Z,s1,r1,en1,h1⟩ | false=>rw [_q (by decide)] at h1 ⊢;exact h1.here r1 rfl
theorem zeu{fa fb:FT}(ha:RT X E a fa)(hb:RW X E (.BoolOp .Or (b::uh) pos) fb):RW X E (.BoolOp .Or (a::b::uh) pos) (fOr fa fb):= ze6 (zki ha hb) fun O H Q ⟨Y,Z,s,r,en,h⟩=>by
  refine z24 (k:=fun Z x s1=>if x=true then .ok true s1 else fb Z s1) r en h _ fun v H1 Y1 s1 r1 en1 stp h1=>?_;cases v with
  | false=>rw [_q (by decide)] at h1 ⊢;exact ⟨Y1,Z,s1,r1,en1,h1⟩ | true=>rw [_f rfl] at h1 ⊢;exact h1.here r1 rfl
theorem kE{fa:FT}(ha:RT X E a fa):RT X E (.UnaryOp .Not a pos) (z1c fa):= z8x (zhj ha) fun O H Q ⟨Y,Z,s,r,en,h⟩=>z24 (k:=fun Z x s1=>.ok (!x) s1) r en h _ fun v H1 Y1 s1 r1 en1 stp h1=>h1.here r1 rfl
theorem jo{f:FE}(h:RE X E a f)(he:∀ whole,isTrue a X.env whole=(do let v <- whole;standAt a.pos;holding [v] (truthy v)):=by intro _;rfl):RT X E a (tOf f):= z8x (ziv h he) fun O H Q h=>z3J h
def eIf(ft:FT)(fa fb:FE):FE:=fun Z s=>(ft Z s).bind fun x s1=>if x=true then fa Z s1 else fb Z s1
theorem zkM{ft:FT}{fa fb:FE}(hc:RT X E c ft)(ha:RE X E a fa)(hb:RE X E b fb):RE X E (.IfExp c a b pos) (eIf ft fa fb):= zE (zcQ hc ha hb) fun O H Q ⟨Y,Z,s,r,en,h⟩=>z24 (k:=fun Z x s1=>if x=true then fa Z s1 else fb Z s1) r en h _ fun v H1 Y1 s1 r1 en1 stp h1=>by cases v with
  | true=>rw [_f rfl] at h1 ⊢;exact ⟨Y1,Z,s1,r1,en1,h1⟩ | false=>rw [_q (by decide)] at h1 ⊢;exact ⟨Y1,Z,s1,r1,en1,h1⟩
theorem qW {fa fb:FE} (ha:RE X E a fa) (hb:RE X E b fb) (hs:z7m b:=by intro _ _;rfl):RE X E (.Subscript a b pos) (eOp dIx fa fb):=by
 obtain ⟨r,h1,h2⟩:=zlU (X:=X) (E:=E);exact zE (zhJ h1 ha hb hs) fun O H Q h=>z8A h2 h
def zi:FA:=fun _ s=>.ok [] s
def za(fa:FE)(fr:FA):FA:=fun Z s=>(fa Z s).bind fun x s1=>(fr Z s1).bind fun xs s2=>.ok (x::xs) s2
theorem zf:RA X E [] zi:=ze1 ux fun O H Q ⟨Y,Z,s,r,en,h⟩=>h.here r zq.nil
theorem qG{fa:FE}{fr:FA}(ha:RE X E e fa)(hr:RA X E es fr)(hs:starEach (e::es) X.env=(false,eval e X.env)::starEach es X.env:=by rfl):RA X E (e::es) (za fa fr):= ze1 (yT ha hr hs) fun O H Q ⟨Y,Z,s,r,en,h⟩=>by
  refine zB (k:=fun Z x s1=>(fr Z s1).bind fun xs s2=>.ok (x::xs) s2) r en h _ fun v H1 Y1 s1 d r1 en1 dn stp h1=>?_;refine uL (k:=fun Z xs s2=>.ok (d::xs) s2) r1 en1 h1 _ fun vs H2 Y2 s2 ds r2 en2 dn2 stp2 h2=>?_;exact h2.here r2 (zq.cons (dn.mono stp2) dn2)
def qq(f:FA):FE:=fun Z s=>(f Z s).bind fun xs s1=>if xs.length<=cap then .ok (.tup xs) s1 else .no
theorem wT{f:FA}{x1:Nat}(h:RA X E es f):RE X E (.Tuple es x1 pos) (qq f):= zE (zdY h) fun O H Q ⟨Y,Z,s,r,en,h⟩=>by
  refine uL (k:=fun Z xs s1=>if xs.length<=cap then R.ok (D.tup xs) s1 else .no) r en h _ fun vs H2 Y2 s2 ds r2 en2 dn2 stp2 h2=>?_;split at h2
  ·rename_i hl;exact ⟨by rw [dn2.length];exact uj hl,z3t r2 h2 dn2⟩
  ·exact h2.elim
def jn(f:FA):FE:=fun Z s=>(f Z s).bind fun xs s1=>if xs.length<=cap then .ok (.lst xs) s1 else .no
theorem vc{f:FA}(h:RA X E es f):RE X E (.List es pos) (jn f):= zE (zey h).freeze fun O H Q ⟨Y,Z,s,r,en,h⟩=>by
  refine uL (k:=fun Z xs s1=>if xs.length<=cap then R.ok (D.lst xs) s1 else .no) r en h _ fun vs H2 Y2 s2 ds r2 en2 dn2 stp2 h2=>?_;split at h2
  ·rename_i hl;exact ⟨by rw [dn2.length];exact uj hl,kb r2 h2 dn2⟩
  ·exact h2.elim
def z7l(f:FA):FE:=fun Z s=>(f Z s).bind fun xs s1=>if xs.length<=cap/\D.flat.flats xs=true then .ok (.loc s1.length) (s1++[xs]) else .no
theorem z9C{mg:Gm}{H:Hp}{Y:List Addr}{s:Sto}{xs:List D}{vs:List V}{Q:VK}(r:Rep mg H Y s)(h:okR mg E H Y (Den mg) (.ok (.loc s.length) (s++[xs])) Q)(hf:D.flat.flats xs=true)(hd:zq mg H Y xs vs):∀ p,H p=none->Q (.ref p) (upd H p (.lst vs)):=fun p hp=>by
 refine h _ _ _ (xr.layL r hp hd hf) ?_;simp only [Den];exact ⟨p,rfl,by rw [<- r.len];simp,vs,zC⟩
theorem z6i{f:FA}(h:RA X E es f):RE X E (.List es pos) (z7l f):= zE (zey h) fun O H Q ⟨Y,Z,s,r,en,h⟩=>by
  refine uL (k:=fun Z xs s1=>if xs.length<=cap/\D.flat.flats xs=true then R.ok (D.loc s1.length) (s1++[xs]) else .no) r en h _ fun vs H2 Y2 s2 ds r2 en2 dn2 stp2 h2=>?_;split at h2
  ·rename_i hl;exact ⟨by rw [dn2.length];exact uj hl.1,z9C r2 h2 hl.2 dn2⟩
  ·exact h2.elim
def z1j(X:Cx)(E:XK)(r:List V->Hp->VK->Prop)(g:List D->Sto->R D):Prop:= ∀ H Y s ds vs (Q:VK),Rep (gm X) H Y s->zq (gm X) H Y ds vs->okR (gm X) E H Y (Den (gm X)) (g ds s) Q->r vs H Q
def zg(g:List D->Sto->R D)(f:FA):FE:=fun Z s=>(f Z s).bind fun xs s1=>g xs s1
theorem zP {x:Str} {p:Pos} {id:String} {g:List D->Sto->R D} {f:FA} (hc:∃ r,xK X (.builtin id) r/\z1j X E r g) (hg:Gl X x) (hm:X.mg x=none) (hv:bootBuiltins x=some (.builtin id)) (ha:RA X E (e::es) f) (hn:x≠"__name__":=by decide) (hdb:(x==("__debug__":Str))=false:=by decide) (he:starEach (e::es) X.env=(false,eval e X.env)::starEach es X.env:=by rfl) (hpl:(backTo pos (starEach es X.env)).any (·.1)=false:=by rfl):RE X E (.Call (.Name x p) (e::es) [] pos) (zg g f):=by
 obtain ⟨r,h1,h2⟩:=hc;exact zE (jl h1 hg hm hv ha hn hdb he hpl) fun O H Q ⟨Y,Z,s,r,en,h⟩=> uL (k:=fun Z xs s1=>g xs s1) r en h _ fun vs H2 Y2 s2 ds r2 en2 dn2 stp2 h3=>h2 H2 Y2 s2 ds vs Q r2 dn2 h3
theorem z1M {x:Str} {p:Pos} {T:String} {g:List D->Sto->R D} {f:FA} (hc:∃ r,xK X (.type T) r/\z1j X E r g) (hg:Gl X x) (hm:X.mg x=none) (hv:bootBuiltins x=some (.type T)) (ha:RA X E (e::es) f) (hn:x≠"__name__":=by decide) (hdb:(x==("__debug__":Str))=false:=by decide) (he:starEach (e::es) X.env=(false,eval e X.env)::starEach es X.env:=by rfl) (hpl:(backTo pos (starEach es X.env)).any (·.1)=false:=by rfl):RE X E (.Call (.Name x p) (e::es) [] pos) (zg g f):=by
 obtain ⟨r,h1,h2⟩:=hc;exact zE (zbw h1 hg hm hv ha hn hdb he hpl) fun O H Q ⟨Y,Z,s,r,en,h⟩=> uL (k:=fun Z xs s1=>g xs s1) r en h _ fun vs H2 Y2 s2 ds r2 en2 dn2 stp2 h3=>h2 H2 Y2 s2 ds vs Q r2 dn2 h3
theorem z1P{mg:Gm}{H:Hp}{Y:List Addr}{d:D}{vs:List V}(h:zq mg H Y [d] vs):∃ v,vs=[v]/\Den mg H Y d v:=by
 simp only [zq] at h;obtain ⟨v,r,rfl,h1,rfl⟩:=h;exact ⟨v,rfl,h1⟩
theorem z6F{mg:Gm}{H:Hp}{Y:List Addr}{d d':D}{vs:List V}(h:zq mg H Y [d,d'] vs):∃ v v',vs=[v,v']/\Den mg H Y d v/\Den mg H Y d' v':=by
 simp only [zq] at h;obtain ⟨v,r,rfl,h1,v',r',rfl,h2,rfl⟩:=h;exact ⟨v,v',rfl,h1,h2⟩
def ue:List D->Sto->R D
 | [d],s=>match zW s d with | some xs=>.ok (.int xs.length) s | none=>.no
 | _,_=>.no
theorem kU:∃ r,xK X (.builtin "len") r/\z1j X E r ue:=⟨_,z5C,fun H Y s ds vs Q r hd h=>by
 unfold ue at h;split at h
 ·split at h
  ·rename_i d xs e;obtain ⟨v,rfl,dn⟩:=z1P hd;obtain ⟨a,ws,rfl,q1,q2⟩:=je (K:=X.K) r e dn;exact ⟨a,ws,rfl,q1,by rw [q2.length];exact h.here r yn⟩
  ·exact h.elim
 ·exact h.elim⟩
def vb:List D->Sto->R D
 | [d],s=>match zW s d with | some xs=>.ok (.tup xs) s | none=>.no
 | _,_=>.no
theorem z4U:∃ r,xK X (.type "tuple") r/\z1j X E r vb:=⟨_,z4L,fun H Y s ds vs Q r hd h=>by match ds,hd,h with
 | [],_,h=>exact h.elim | _::_::_,_,h=>exact h.elim | [d],hd,h=>
  obtain ⟨v,rfl,dn⟩:=z1P hd;simp only [vb] at h;cases e:zW s d with
  | none=>rw [e] at h;exact h.elim | some xs=>
   rw [e] at h;cases d with
   | tup ys=>
    simp only [zW,_w] at e;subst e;obtain ⟨a,ws,rfl,q1,q2⟩:=qS (K:=X.K) dn;exact ⟨a,ws,rfl,.inr ⟨q1,h.here r dn⟩⟩ | lst ys=>
    obtain ⟨a,ws,rfl,q1,q2⟩:=zJ (d:=.lst ys) r e dn;exact ⟨a,ws,rfl,.inl ⟨.inl q1,z3t r h q2⟩⟩ | loc l=>
    obtain ⟨a,ws,rfl,q1,q2⟩:=zJ (d:=.loc l) r e dn;exact ⟨a,ws,rfl,.inl ⟨.inl q1,z3t r h q2⟩⟩ | scr ys=>
    simp only [zW,_w] at e;subst e;obtain ⟨a,ws,rfl,q1,q2⟩:=zef dn;exact ⟨a,ws,rfl,.inl ⟨q1,z3t r h q2⟩⟩ | _=>simp [zW] at e⟩
def zeH:List D->Sto->R D
 | [.int i],s=>.ok (.int i) s | [.bl b],s=>.ok (.int (if b then 1 else 0)) s | _,_=>.no
theorem zk2:∃ r,xK X (.type "int") r/\z1j X E r zeH:=⟨_,zb0,fun H Y s ds vs Q r hd h=>by
 unfold zeH at h;split at h
 ·rename_i i;obtain ⟨v,rfl,dn⟩:=z1P hd;cases zQ dn;exact .inl ⟨i,rfl,h.here r yn⟩
 ·rename_i b;obtain ⟨v,rfl,dn⟩:=z1P hd;cases uw dn;exact .inr ⟨b,rfl,h.here r yn⟩
 ·exact h.elim⟩
def zdd:List D->Sto->R D
 | [.int i,.int j],s=>.ok (.int (if j > i then j else i)) s | _,_=>.no
def zdB:List D->Sto->R D
 | [.int i,.int j],s=>.ok (.int (if j<i then j else i)) s | _,_=>.no
theorem zj7(hc:X.calm=true):∃ r,xK X (.builtin "max") r/\z1j X E r zdd:=⟨_,zaU hc,fun H Y s ds vs Q r hd h=>by
 unfold zdd at h;split at h
 ·rename_i i j;obtain ⟨v,v',rfl,d1,d2⟩:=z6F hd;cases zQ d1;cases zQ d2;exact ⟨i,j,rfl,h.here r yn⟩
 ·exact h.elim⟩
theorem zia(hc:X.calm=true):∃ r,xK X (.builtin "min") r/\z1j X E r zdB:=⟨_,z9K hc,fun H Y s ds vs Q r hd h=>by
 unfold zdB at h;split at h
 ·rename_i i j;obtain ⟨v,v',rfl,d1,d2⟩:=z6F hd;cases zQ d1;cases zQ d2;exact ⟨i,j,rfl,h.here r yn⟩
 ·exact h.elim⟩
abbrev FO:=Ev->Sto->R (Option Int)
def oD(_:Hp)(_:List Addr)(a b:Option Int):Prop:=a=b
def tO(mg:Gm)(E:XK)(f:FO):TO:=fun O H Q=>∃ Y Z s,Rep mg H Y s/\vG mg H Y Z O/\okR mg E H Y oD (f Z s) Q
def RO(X:Cx)(E:XK)(e:Option Expr)(f:FO):Prop:=PO X e (tO (gm X) E f)
theorem zdZ{o:Option Expr}{t t':TO}(h:PO X o t)(i:∀ O H Q,t' O H Q->t O H Q):PO X o t':=fun pins s O H Q I q=>h pins s O H Q I (i O H Q q)
def yV:FO:=fun _ s=>.ok none s
def qe(f:FE):FO:=fun Z s=>(f Z s).bind fun d s1=>match d with | .int i=>.ok (some i) s1 | _=>.no
theorem kC:RO X E none yV:=zdZ zaC fun O H Q ⟨Y,Z,s,r,en,h⟩=>h.here (b:=none) r rfl
theorem jD{f:FE}(h:RE X E e f):RO X E (some e) (qe f):=zdZ (zfY h) fun O H Q ⟨Y,Z,s,r,en,h⟩=>by
 refine zB (k:=fun Z d s1=>match d with | .int i=>.ok (some i) s1 | _=>.no) r en h _ fun v H1 Y1 s1 d r1 en1 dn stp h1=>?_;cases d with
 | int i=>cases zQ dn;exact ⟨i,rfl,h1.here (b:=some i) r1 rfl⟩ | _=>exact h1.elim
def cutD(xs:List D)(lo hi:Option Int):List D:=(xs.drop (HT.sIx xs.length 0 lo)).take (HT.sIx xs.length xs.length hi-HT.sIx xs.length 0 lo)
theorem z4b{mg:Gm}{H:Hp}{Y:List Addr}{xs:List D}{vs:List V}(h:zq mg H Y xs vs)(lo hi:Option Int):zq mg H Y (cutD xs lo hi) (zdX vs lo hi):=by
 unfold cutD zdX;rw [h.length];exact (h.drop _).take _
def dSl(x:D)(lo hi:Option Int)(s:Sto):R D:=match x with
 | .tup xs=>.ok (.tup (cutD xs lo hi)) s | x=>match listOf s x with | some xs=>.ok (.lst (cutD xs lo hi)) s | none=>.no
def eSl(fe:FE)(fl fh:FO):FE:=fun Z s=>(fe Z s).bind fun x s1=>(fl Z s1).bind fun lo s2=>(fh Z s2).bind fun hi s3=>dSl x lo hi s3
theorem z7s{α β:Type}{Dn:Hp->List Addr->α->β->Prop}{mg:Gm}{f:FO}{k:Ev->Option Int->Sto->R α}{O:L2.St}{H:Hp}{Q:β->Hp->Prop}{Y:List Addr}{Z:Ev}{s:Sto}(r:Rep mg H Y s)(en:vG mg H Y Z O) (h:okR mg E H Y Dn ((f Z s).bind (k Z)) Q)(K:Option Int->Hp->Prop) (hK:∀ v H1 Y1 s1,Rep mg H1 Y1 s1->vG mg H1 Y1 Z O->xr mg H Y H1 Y1 s1->okR mg E H1 Y1 Dn (k Z v s1) Q->K v H1):tO mg E f O H K:= ⟨Y,Z,s,r,en,(okR.bind (Dn:=oD) h).imp fun v H1 ⟨Y1,s1,d,stp,dn,q⟩=>hK v H1 Y1 s1 stp.rep (en.mono stp) stp (by cases (show d=v from dn);exact q)⟩
theorem uY{lo hi:Option Expr}{p2:Pos}{fe:FE}{fl fh:FO}(he:RE X E e fe)(hl:RO X E lo fl)(hh:RO X E hi fh):RE X E (.Subscript e (.Slice lo hi none p2) pos) (eSl fe fl fh):= zE (z8f ((zhC.or zgr).or zeW.freeze) he hl hh) fun O H Q ⟨Y,Z,s,r,en,h⟩=>by
  refine zB (k:=fun Z x s1=>(fl Z s1).bind fun lo s2=>(fh Z s2).bind fun hi s3=>dSl x lo hi s3) r en h _ fun v H1 Y1 s1 d r1 en1 dn stp h1=>?_;refine z7s (k:=fun Z lo s2=>(fh Z s2).bind fun hi s3=>dSl d lo hi s3) r1 en1 h1 _ fun lo H2 Y2 s2 r2 en2 stp2 h2=>?_;refine z7s (k:=fun Z hi s3=>dSl d lo hi s3) r2 en2 h2 _ fun hi H3 Y3 s3 r3 en3 stp3 h3=>?_;have dn3:=(dn.mono stp2).mono stp3;cases d with
  | tup xs=>
   obtain ⟨a,vs,rfl,q1,q2⟩:=qS (K:=X.K) dn3;have h3':okR (gm X) E H3 Y3 (Den (gm X)) (.ok (.tup (cutD xs lo hi)) s3) Q:=h3;by_cases hw:HT.sIx vs.length 0 lo=0/\HT.sIx vs.length vs.length hi=vs.length
   ·refine .inl (.inr ⟨a,vs,rfl,q1,hw,?_⟩);have e:cutD xs lo hi=xs:=by
     unfold cutD;rw [<- q2.length,hw.1,hw.2];simp [q2.length]
    rw [e] at h3';exact h3'.here r3 dn3
   ·exact .inl (.inl ⟨a,vs,rfl,q1,hw,z3t r3 h3' (z4b q2 lo hi)⟩) | lst xs=>
   obtain ⟨a,vs,rfl,q1,q2⟩:=zJ (d:=.lst xs) r3 rfl dn3;exact .inr ⟨a,vs,rfl,.inl q1,kb r3 h3 (z4b q2 lo hi)⟩ | loc l=>
   simp only [dSl] at h3;split at h3
   ·rename_i xs e;obtain ⟨a,vs,rfl,q1,q2⟩:=zJ (d:=.loc l) r3 e dn3;exact .inr ⟨a,vs,rfl,.inl q1,kb r3 h3 (z4b q2 lo hi)⟩
   ·exact h3.elim | _=>exact h3.elim
end
abbrev Mir:=List D->Sto->R D
def zdV(mg:Gm)(M:Mir):Sp:=fun vs H Q E=>∃ Y s ds,Rep mg H Y s/\zq mg H Y ds vs/\okR mg E H Y (Den mg) (M ds s) Q
def Has(P:Program)(w:World)(K:W.Frag)(mg:Str->Option Value)(base:Heap)(CX:CXT)(x:Str)(n:Nat)(M:Mir):Prop:= ∃ f fd ps,z4g P w K mg base CX n f fd ps (zdV ⟨mg,K⟩ M)/\Binds K fd ps []/\W.keepIn K (.ref f)=true/\mg x=some (.ref f)
section
variable {X:Cx}{E:XK}{e a b c:Expr}{es:List Expr}{pos:Pos}{CX:CXT}
theorem zbQ {x:Str} {p:Pos} {n:Nat} {M:Mir} {f:FA} (F:Has X.prog X.w X.K X.mg X.base CX x n M) (hr:z09 n X.A) (hx:Passes CX X E) (hg:Gl X x) (ha:RA X E (e::es) f) (hdb:(x==("__debug__":Str))=false:=by decide) (he:starEach (e::es) X.env=(false,eval e X.env)::starEach es X.env:=by rfl) (hpl:(backTo pos (starEach es X.env)).any (·.1)=false:=by rfl):RE X E (.Call (.Name x p) (e::es) [] pos) (zg M f):=by
 obtain ⟨fa,fd,ps,F,hb,hk,hm⟩:=F;refine zE (zfe F hr hg hm hk hb .nil hx ha hdb he hpl) fun O H Q ⟨Y,Z,s,r,en,h⟩=>?_;refine uL (k:=fun Z xs s1=>M xs s1) r en h _ fun vs H2 Y2 s2 ds r2 en2 dn2 stp2 h3=>?_;rw [_aP];exact ⟨Y2,s2,ds,r2,dn2,h3⟩
def zn(f g:FS):FS:=fun Z s=>(f Z s).bind fun fl s1=>match fl with | .nx Z'=>g Z' s1 | fl=>.ok fl s1
def xp:FS:=fun Z s=>.ok (.nx Z) s
variable {st:Stmt}{rs:List Stmt}
theorem zi5 {mg:Gm} {f g:FS} {D:zfN} {O:L2.St} {H:Hp} (h:tS mg E (zn f g) D O H):zkO (tS mg E f) (tS mg E g) D O H:=by
 obtain ⟨Y,Z,s,r,en,h⟩:=h;refine ⟨Y,Z,s,r,en,(okR.bind (Dn:=FlD mg) h).imp fun fv H1 ⟨Y1,s1,fl,stp,dn,q⟩=>?_⟩;cases fl with
 | nx Z'=> cases fv with
  | nx O'=>exact ⟨Y1,Z',s1,stp.rep,dn,q⟩ | _=>exact (show False from dn).elim
 | rt d=> cases fv with
  | rt v=>exact okR.here (b:=FlV.rt v) (Q:=z3w D) (s:=s1) (a:=Fl.rt d) q stp.rep dn | _=>exact (show False from dn).elim
 | bk Z'=> cases fv with
  | bk v=>exact okR.here (b:=FlV.bk v) (Q:=z3w D) (s:=s1) (a:=Fl.bk Z') q stp.rep dn | _=>exact (show False from dn).elim
 | ct Z'=> cases fv with
  | ct v=>exact okR.here (b:=FlV.ct v) (Q:=z3w D) (s:=s1) (a:=Fl.ct Z') q stp.rep dn | _=>exact (show False from dn).elim
theorem xc:RSs X E [] xp:=zb2 zf2 fun D O H ⟨Y,Z,s,r,en,h⟩=>okR.here (b:=FlV.nx O) h r en
theorem zd{f g:FS}(h1:RS X E st f)(h2:RSs X E rs g):RSs X E (st::rs) (zn f g):=zb2 (zcb h1 h2) fun D O H h=>zi5 h
theorem zj{f:FS}(h1:RS X E st f):RSs X E [st] f:=zf0 h1
def fNo:FS:=fun _ _=>.no
theorem z6N:RS X E st fNo:=vK zcm fun D O H ⟨_,_,_,_,_,h⟩=>h
def wS(f:FE):FS:=fun Z s=>(f Z s).bind fun _ s1=>.ok (.nx Z) s1
theorem vS {f:FE} (he:RE X E e f) (hs:swapsWith e none pos.line X.env=pure false:=by rfl):RS X E (.Expr e pos) (wS f):= vK (zfW he hs) fun D O H ⟨Y,Z,s,r,en,h⟩=>zB (k:=fun Z _ s1=>R.ok (Fl.nx Z) s1) r en h _ fun v H1 Y1 s1 d r1 en1 dn stp h1=>okR.here (b:=FlV.nx O) (Q:=z3w D) h1 r1 en1
def wZ(f:FE):FS:=fun Z s=>(f Z s).bind fun d s1=>.ok (.rt d) s1
theorem yi {f:FE} (he:RE X E e f):RS X E (.Return (some e) pos) (wZ f):= vK (zhk he) fun D O H ⟨Y,Z,s,r,en,h⟩=>zB (k:=fun Z d s1=>R.ok (Fl.rt d) s1) r en h _ fun v H1 Y1 s1 d r1 en1 dn stp h1=>okR.here (b:=FlV.rt v) (Q:=z3w D) h1 r1 dn
def fIf(ft:FT)(f g:FS):FS:=fun Z s=>(ft Z s).bind fun x s1=>if x=true then f Z s1 else g Z s1
theorem z1G{ft:FT}{f g:FS}{as bs:List Stmt}(hc:RT X E c ft)(ha:RSs X E as f)(hb:RSs X E bs g):RS X E (.If c as bs pos) (fIf ft f g):= vK (zkB hc ha hb) fun D O H ⟨Y,Z,s,r,en,h⟩=>z24 (k:=fun Z x s1=>if x=true then f Z s1 else g Z s1) r en h _ fun v H1 Y1 s1 r1 en1 stp h1=>by cases v with
  | true=>rw [_f rfl] at h1 ⊢;exact ⟨Y1,Z,s1,r1,en1,h1⟩ | false=>rw [_q (by decide)] at h1 ⊢;exact ⟨Y1,Z,s1,r1,en1,h1⟩
abbrev FG:=D->Ev->Sto->R Ev
def tG(mg:Gm)(E:XK)(f:FG):TG:=fun v O H Q=>∃ Y Z s d,Rep mg H Y s/\vG mg H Y Z O/\Den mg H Y d v/\okR mg E H Y (vG mg) (f d Z s) (fun O' H'=>Q O' H')
def RG(X:Cx)(E:XK)(tg:Expr)(f:FG):Prop:=PG X tg (tG (gm X) E f)
theorem zdK{tg:Expr}{t t':TG}(h:PG X tg t)(i:∀ v O H Q,t' v O H Q->t v O H Q):PG X tg t':=fun pins s O H v u Q I r q=>h pins s O H v u Q I r (i v O H Q q)
def wo(i:Nat):FG:=fun d Z s=>.ok (Z.set i (some d)) s
theorem jJ(i:Nat){x:Str}(hN:X.N.Nodup)(hi:X.N[i]? = some x:=by rfl)(hx:Loc X.env.scope x:=by first | exact Or.inl rfl | exact Or.inr rfl)(hf:X.fn x=true\/X.env.scope.names.lookup x=some .local:=by first | exact .inl rfl | exact .inr rfl | assumption):RG X E (.Name x pos) (wo i):= zdK (yr hN hi hx hf) fun v O H Q ⟨Y,Z,s,d,r,en,dn,h⟩=>okR.here (b:=O.set i (some v)) h r (en.set dn i)
def xW(i j:Nat):FG:=fun d Z s=>match d with | .tup [x,y]=>.ok ((Z.set i (some x)).set j (some y)) s | _=>.no
theorem z5m(i j:Nat){x y:Str}{px py:Pos}{kt:Nat}(hc:X.calm=true)(hN:X.N.Nodup)(hi:X.N[i]? = some x:=by rfl)(hj:X.N[j]? = some y:=by rfl)(hx:Loc X.env.scope x:=by first | exact Or.inl rfl | exact Or.inr rfl)(hy:Loc X.env.scope y:=by first | exact Or.inl rfl | exact Or.inr rfl) (hf:X.fn x=true\/X.env.scope.names.lookup x=some .local:=by first | exact .inl rfl | exact .inr rfl | assumption)(hf':X.fn y=true\/X.env.scope.names.lookup y=some .local:=by first | exact .inl rfl | exact .inr rfl | assumption): RG X E (.Tuple [.Name x px,.Name y py] kt pos) (xW i j):= zdK (zen hc (z1C (yr hN hi hx hf) (z1C (yr hN hj hy hf') zbr))) fun v O H Q ⟨Y,Z,s,d,r,en,dn,h⟩=>by
  unfold xW at h;split at h
  ·rename_i d1 d2;obtain ⟨p,vs,rfl,q1,q2⟩:=qS (K:=X.K) dn;obtain ⟨v1,v2,rfl,e1,e2⟩:=z6F q2;exact ⟨p,[v1,v2],rfl,q1,rfl,v1,[v2],rfl,v2,[],rfl,rfl,okR.here h r ((en.set e1 i).set e2 j)⟩
  ·exact h.elim
def yt(i:Nat)(f:FE):FS:=fun Z s=>(f Z s).bind fun d s1=>.ok (.nx (Z.set i (some d))) s1
theorem zZ (i:Nat) {x:Str} {pos':Pos} {f:FE} (hN:X.N.Nodup) (he:RE X E e f) (hi:X.N[i]? = some x:=by rfl) (hx:Loc X.env.scope x:=by first | exact Or.inl rfl | exact Or.inr rfl) (hs:swapsWith e (some (.Name x pos')) pos.line X.env=pure false:=by rfl) (hf:X.fn x=true\/X.env.scope.names.lookup x=some .local:=by first | exact .inl rfl | exact .inr rfl | assumption):RS X E (.Assign [.Name x pos'] e pos) (yt i f):= vK (ziQ hN hi hx he hs hf) fun D O H ⟨Y,Z,s,r,en,h⟩=>zB (k:=fun Z d s1=>R.ok (Fl.nx (Z.set i (some d))) s1) r en h _ fun v H1 Y1 s1 d r1 en1 dn stp h1=>okR.here (b:=FlV.nx (O.set i (some v))) (Q:=z3w D) h1 r1 (en1.set dn i)
def zeF(f:FE)(g:FG):FS:=fun Z s=>(f Z s).bind fun d s1=>(g d Z s1).bind fun Z' s2=>.ok (.nx Z') s2
theorem z9A {tg:Expr} {f:FE} {g:FG} (he:RE X E e f) (hg:RG X E tg g) (hs:swapsWithSole [tg] e pos.line X.env=pure false:=by rfl) (hw:swappedStores [tg] e X.env=pure none:=by rfl) (h1:(assignEach [tg] X.env).map (·.2)=[assign tg X.env]:=by rfl):RS X E (.Assign [tg] e pos) (zeF f g):= vK (ze9 he hg hs hw h1) fun D O H ⟨Y,Z,s,r,en,h⟩=>zB (k:=fun Z d s1=>(g d Z s1).bind fun Z' s2=>R.ok (Fl.nx Z') s2) r en h _ fun v H1 Y1 s1 d r1 en1 dn stp h1=> ⟨Y1,Z,s1,d,r1,en1,dn,(okR.bind (Dn:=vG (gm X)) h1).imp fun O' H' ⟨Y2,s2,Z',stp2,en2,q⟩=>okR.here (b:=FlV.nx O') (Q:=z3w D) q stp2.rep en2⟩
def zlV(i j:Nat)(f:FA):FS:=fun Z s=>(f Z s).bind fun ds s1=>match ds with | [x,y]=>.ok (.nx ((Z.set i (some x)).set j (some y))) s1 | _=>.no
def z4w(fo fi fv:FE):FS:=fun Z s=>(fv Z s).bind fun d s1=>(fo Z s1).bind fun o s2=>(fi Z s2).bind fun i s3=>match o,i with
 | .loc l,.int k=>match s3[l]? with
  | some xs=>match ixN xs.length k with
   | some j=>if d.flat=true then .ok (.nx Z) (s3.set l (xs.set j d)) else .no | none=>.no
  | none=>.no
 | _,_=>.no
theorem z5a:∀ {xs:List D}{d:D}{j:Nat},D.flat.flats xs=true->d.flat=true->D.flat.flats (xs.set j d)=true
 | [],_,_,_,_=>rfl | x::xs,d,0,h,hd=>by
  simp only [D.flat.flats,_E,_aU] at h ⊢;exact ⟨hd,h.2⟩ | x::xs,d,j+1,h,hd=>by
  simp only [D.flat.flats,_E,_aV] at h ⊢;exact ⟨h.1,z5a h.2 hd⟩
theorem qM:∀ {xs ys:List D},D.flat.flats xs=true->D.flat.flats ys=true->D.flat.flats (xs++ys)=true
 | [],_,_,h=>h | x::xs,ys,h,h'=>by
  simp only [D.flat.flats,_E,_bs] at h ⊢;exact ⟨h.1,qM h.2 h'⟩
theorem zb6 {o i:Expr} {p1:Pos} {fo fi fv:FE} (hv:RE X E e fv) (ho:RE X E o fo) (hi:RE X E i fi) (ha:∀ v,assign (.Subscript o i p1) X.env v=(do
   let ov <- holding [v] (eval o X.env) let iv <- holding [v,ov] (eval i X.env)
   standAt p1
   holding [v,ov,iv] (setItem ov iv v)
   release [v,ov,iv] []):=by intro _;rfl) (hs:swapsWithSole [.Subscript o i p1] e pos.line X.env=pure false:=by rfl) (hw:swappedStores [.Subscript o i p1] e X.env=pure none:=by rfl) (h1:(assignEach [.Subscript o i p1] X.env).map (·.2)=[assign (.Subscript o i p1) X.env]:=by rfl):RS X E (.Assign [.Subscript o i p1] e pos) (z4w fo fi fv):= vK (ze9 hv (zgL ho hi set_list ha) hs hw h1) fun D O H ⟨Y,Z,s,r,en,h⟩=>by
  unfold z4w at h;refine ⟨Y,Z,s,r,en,(okR.bind (Dn:=Den (gm X)) h).imp fun v H1 ⟨Y1,s1,d,stp,dn,h1⟩=>?_⟩;refine ⟨Y1,Z,s1,stp.rep,en.mono stp,(okR.bind (Dn:=Den (gm X)) h1).imp fun ov H2 ⟨Y2,s2,od,stp2,dn2,h2⟩=>?_⟩;refine ⟨Y2,Z,s2,stp2.rep,(en.mono stp).mono stp2,(okR.bind (Dn:=Den (gm X)) h2).imp fun iv H3 ⟨Y3,s3,id,stp3,dn3,h3⟩=>?_⟩;have en3:=((en.mono stp).mono stp2).mono stp3;have dv:=(dn.mono stp2).mono stp3;have dov:=dn2.mono stp3;cases od with
  | loc l=> cases id with
   | int k=>
    simp only at h3;split at h3
    ·rename_i xs ex;split at h3
     ·rename_i j ej;split at h3
      ·rename_i hf;cases zQ dn3;simp only [Den] at dov;obtain ⟨a,rfl,e1,ka⟩:=dov;obtain ⟨vs,q1,q2⟩:=stp3.rep.at_ ex e1 ka;have stp4:=xr.put (l:=l) (xs:=xs.set j d) stp3.rep e1 ka (q2.set j dv) (z5a (stp3.rep.flat xs (_A ex)) hf);exact ⟨a,vs,k,j,rfl,rfl,q1,by rw [q2.length];exact ej,h3 (.nx O) _ _ stp4 (en3.mono stp4)⟩
      ·exact h3.elim
     ·exact h3.elim
    ·exact h3.elim | _=>exact h3.elim
  | _=>exact h3.elim
def z9y(fo fv:FE):FE:=fun Z s=>(fo Z s).bind fun o s1=>match o with
 | .loc l=>(fv Z s1).bind fun d s2=>match s2[l]? with
  | some xs=>if d.flat=true/\xs.length<cap then .ok .non (s2.set l (xs++[d])) else .no | none=>.no
 | _=>.no
theorem kK {o:Expr} {apos:Pos} {fo fv:FE} (ho:RE X E o fo) (hv:RE X E e fv) (hbase:attributeBase o "append" X.env (eval o X.env)=eval o X.env:=by rfl) (hfew:((backTo pos (starEach [e] X.env)).all (fun x=>!x.1)&&(backToKw pos (keywordEach [] X.env)).all (fun x=>x.1.isSome) && decide ([e].length+([]:List Keyword).length+(if ([]:List Keyword).isEmpty then 0 else 1)<30))=true:=by rfl) (hline:(apos.endLine==pos.line)=true:=by rfl) (hs:starEach [e] X.env=(false,eval e X.env)::starEach [] X.env:=by rfl) (hplain:(backTo pos (starEach [] X.env)).any (·.1)=false:=by rfl): RE X E (.Call (.Attribute o "append" apos) [e] [] pos) (z9y fo fv):= zE (zdq _bf PySem.F.slot_list_append PySem.F.type_list_append zaY ho (yT hv ux hs) hbase hfew hline hs hplain) fun O H Q ⟨Y,Z,s,r,en,h⟩=>by
  unfold z9y at h;refine ⟨Y,Z,s,r,en,(okR.bind (Dn:=Den (gm X)) h).imp fun ov H1 ⟨Y1,s1,od,stp,dn,h1⟩=>?_⟩;cases od with
  | loc l=>
   simp only at h1;have hty:tyV X.K "list" ov H1:=by
    simp only [Den] at dn;obtain ⟨a,rfl,e1,vs,e2⟩:=dn;exact .inl ⟨rfl,vs,.inl (.inl e2)⟩
   refine ⟨hty,⟨Y1,Z,s1,stp.rep,en.mono stp,(okR.bind (Dn:=Den (gm X)) h1).imp fun v H2 ⟨Y2,s2,d,stp2,dn2,h2⟩=>?_⟩⟩;split at h2
   ·rename_i xs ex;split at h2
    ·rename_i hf;have dov:=dn.mono stp2;simp only [Den] at dov;obtain ⟨a,rfl,e1,ka⟩:=dov;obtain ⟨vs,q1,q2⟩:=stp2.rep.at_ ex e1 ka;have stp3:=xr.put (l:=l) (xs:=xs++[d]) stp2.rep e1 ka (q2.append (zq.one dn2)) (qM (stp2.rep.flat xs (_A ex)) (by simp [D.flat.flats,hf.1]));refine ⟨a,vs,v,rfl,rfl,q1,by rw [q2.length];exact ziN hf.2,h2 .non _ _ stp3 (by simp [Den])⟩
    ·exact h2.elim
   ·exact h2.elim | _=>exact h1.elim
end
end Dd
namespace L2
theorem zik{X:Cx}{tg l:Expr}{tl:TE}(hl:PE X l tl):PI X tg l (fun O H R=>tl O H fun x H1=>∃ a,x=.ref a/\(((∃ xs,SqL X.K H1 a xs)/\R (Itl X.K a) H1)\/((∃ xs,SqT X.K H1 a xs)/\R (Itt X.K a) H1))):=by
 intro pins s O H R I h;refine thn (hl pins s O H _ I h) fun v s1 ⟨x,H1,I1,r1,q1⟩=>?_;obtain ⟨a,e,q⟩:=q1;subst e;cases r1;rcases q with ⟨⟨xs,hq⟩,q⟩ | ⟨⟨xs,hq⟩,q⟩
 ·obtain ⟨its,rv,p,hz⟩:=I1.list hq;refine wpAny_pyIter_list p.isList ?_;refine ⟨s1.heap.objs.size,[s1.heap.objs.size],_,_,H1,rfl,I1.kept (t':=s1.toks) fun b o e=>_d _ e,zaT a _,⟨_,_h _ rfl,rfl,rfl⟩,fun b hb=>?_,q⟩;have e:b=s1.heap.objs.size:=by simpa using hb
  subst e;exact I1.fpOk (_g _) (I1.hok.fresh (_g _))
 ·obtain ⟨its,rv,p,hz⟩:=I1.tuple hq;refine wpAny_pyIter_tuple (show s1.heap.IsTuple a its.toArray from p) ?_;refine ⟨s1.heap.objs.size,[s1.heap.objs.size],_,_,H1,rfl,I1.kept (t':=s1.toks) fun b o e=>_d _ e,z9k a _,⟨_,_h _ rfl,rfl,rfl⟩,fun b hb=>?_,q⟩;have e:b=s1.heap.objs.size:=by simpa using hb
  subst e;exact I1.fpOk (_g _) (I1.hok.fresh (_g _))
theorem km.freeze{X:Cx}{pins:List (Addr×Obj)}{O:L2.St}{C:Addr}{Q:VK}{acc:Value}{s':Shared}(h:km X pins O C (z9w Q) acc s'):km X pins O C Q acc s':=by
 obtain ⟨v,Hf,I,r,⟨a,xs,rfl,ha,q⟩,hm,f⟩:=h;obtain ⟨its,n,rv,e,_⟩:=I.lst ha;refine ⟨_,_,I.freeze ha e (by intro _ z;cases z) (by intro _ _ z;cases z) (by intro _ z;cases z) (by intro _ z;cases z),r,q _,hm,?_,f.2⟩;rw [zx (fun z=>by have:=f.1;rw [z,ha] at this;cases this)];exact f.1
theorem z6U {X:Cx} {tg iter elt:Expr} {ifs:List Expr} {scope:Scope} {pos spos py:Pos} {wi:TI} {g:TG} {ti:TT} {te:TE} {i:Nat} {y:Str} (N':List Str) (mp:List (Option Nat)) (hN:X.N.Nodup) (hy:X.N[i]? = some y) (hyl:Loc X.env.scope y) (hc:X.calm=true) (hi:PI X tg iter wi) (hg:∀ ex s H,PG (zk X N' scope ex s H) tg g) (ht:∀ ex s H,z7X (zk X N' scope ex s H) ifs ti) (he:∀ ex s H,PE (zk X N' scope ex s H) elt te) (hkd:scope.kind=.function) (hnm:∀ y∈scope.names,scope.names.lookup y.1=some y.2) (hfr:∀ y∈scope.names,y.2=.free->X.env.kindOf y.1=some .cell\/X.env.kindOf y.1=some .free) (hmp:z1F X.N scope.names N' mp=true) (hs:∀ x,foldedSetIterable iter X.env x=pure x:=by intro _;rfl) (hsw:swapsWith (.ListComp elt [⟨tg,iter,ifs,0⟩] scope pos) (some (.Name y py)) spos.line X.env=pure true:=by rfl) (hf:X.fn y=true\/X.env.scope.names.lookup y=some .local:=by first | exact .inl rfl | exact .inr rfl | assumption): PS X (.Assign [.Name y py] (.ListComp elt [⟨tg,iter,ifs,0⟩] scope pos) spos) (fun D O H=>zdF wi mp g ti te O H (z9w fun v H'=>D.nx (O.set i (some v)) H')):=by
 intro pins s O H D I h;rw [_bT _ _ _ _ hsw];refine _a (_aJ (_a ?_));show wpAny _ X.A (do let _ <- comprehension (.ListComp elt [⟨tg,iter,ifs,0⟩] scope pos) scope X.env _ (newList []) false (eval iter X.env) (some (assign (.Name y py) X.env))) _ _ s;refine _a (_t (_ba (use:=some (assign (.Name y py) X.env)) (Q:=fun _ s'=>SP X pins D .next s') rfl hs (vk fun y hy hf=>I.ok.has _ (hfr y hy hf)) hkd (fun y hy hl=>by rw [hnm y hy,hl]) (thn (hi pins s O H _ I h) fun xv s₁ h₁=>thn h₁ fun itv s₂ h₂=>?_)) (fun _ s' hq=>_c (_c hq)) fun _ _ e=>e);obtain ⟨it,fp,tn,J,H2,e,I2,T,st2,f2,W,w0,turn⟩:=h₂;subst e;refine z04 (N':=N') (mp:=mp) (O:=O) (pins:=pins) (Q:=z9w fun v H'=>D.nx (O.set i (some v)) H') (RR:=fun acc C=>compPost (model X.prog X.w) X.A X.xe (some (assign (.Name y py) X.env)) (fun _ s'=>SP X pins D .next s') acc C) hc hg ht he hkd hnm hfr hmp I2 T st2 f2 W w0 turn ?_;intro acc C s' hd;obtain ⟨v,Hf,I3,r,q,⟨m,hm⟩,f⟩:=hd.freeze;refine _bK (kH I3 hN hy hyl r (fun s'' I4 ⟨a,sb,ha⟩=>?_) hf);have hC:C≠a:=by
  rcases ha with z | z;·rw [z];exact f.2.1
  ·exact _a5 (f.2.2.2.2.1 y a z)
 exact ⟨m,hm.sameBut sb hC,fun h' sb'=>⟨_,Hf,qk I4 f sb',q⟩⟩
end L2
namespace Dd
open L2
abbrev ItD:=List D×List (Nat×List D)
def okG(g:List (Nat×List D))(all:List D)(s:Sto):Prop:=∀ p∈g,s[p.1]? = some p.2
def zc5(mg:Gm)(H0:Hp)(Y0:List Addr)(a:ItD)(J:It):Prop:=∀ H Y s,xr mg H0 Y0 H Y s->okG a.2 a.1 s->∀ i:Nat, (∀ d,a.1[i]? = some d->J.go i H/\∀ x H',J.yld i H x H'->∃ Y',xr mg H Y H' Y' s/\Den mg H' Y' d x)/\(a.1.length<=i->J.stop i H)
abbrev FI:=Ev->Sto->R ItD
def tI(mg:Gm)(E:XK)(f:FI):TI:=fun O H Rr=>∃ Y Z s,Rep mg H Y s/\vG mg H Y Z O/\okR mg E H Y (zc5 mg) (f Z s) Rr
def RI(X:Cx)(E:XK)(tg it:Expr)(f:FI):Prop:=PI X tg it (tI (gm X) E f)
section
variable {X:Cx}{E:XK}{e a b c tg:Expr}{es:List Expr}{pos:Pos}{CX:CXT}
theorem z3f{it:Expr}{t t':TI}(h:PI X tg it t)(i:∀ O H Q,t' O H Q->t O H Q):PI X tg it t':=fun pins s O H Q I q=>h pins s O H Q I (i O H Q q)
def xb(f:FE):FI:=fun Z s=>(f Z s).bind fun d s1=>match d with
 | .tup xs=>.ok (xs,[]) s1 | .lst xs=>.ok (xs,[]) s1 | .loc l=>match s1[l]? with | some xs=>.ok (xs,[(l,xs)]) s1 | none=>.no
 | _=>.no
theorem jW{f:FE}(h:RE X E e f):RI X E tg e (xb f):=z3f (zik h) fun O H Q ⟨Y,Z,s,r,en,h⟩=>by
 unfold xb at h;refine ⟨Y,Z,s,r,en,(okR.bind (Dn:=Den (gm X)) h).imp fun v H1 ⟨Y1,s1,d,stp,dn,h1⟩=>?_⟩;have lst:∀ (a:Addr)(xs:List D)(g:List (Nat×List D)),(∀ H2 Y2 s2,xr (gm X) H1 Y1 H2 Y2 s2->okG g xs s2->∃ ws,SqL X.K H2 a ws/\zq (gm X) H2 Y2 xs ws)->zc5 (gm X) H1 Y1 (xs,g) (Itl X.K a):=fun a xs g hq H2 Y2 s2 stp2 hg i=>by
  obtain ⟨ws,q1,q2⟩:=hq H2 Y2 s2 stp2 hg;refine ⟨fun d hd=>?_,fun hl=>⟨ws,q1,by rw [q2.length];exact hl⟩⟩;obtain ⟨v,e1,e2⟩:=q2.get hd;refine ⟨⟨ws,v,q1,e1⟩,fun x H' ⟨e3,y⟩=>?_⟩;subst e3;have e4:=y ws q1;rw [e1] at e4;cases e4;exact ⟨Y2,.refl stp2.rep,e2⟩
 have tup:∀ (a:Addr)(xs:List D),(∀ H2 Y2 s2,xr (gm X) H1 Y1 H2 Y2 s2->∃ ws,SqT X.K H2 a ws/\zq (gm X) H2 Y2 xs ws)->zc5 (gm X) H1 Y1 (xs,[]) (Itt X.K a):=fun a xs hq H2 Y2 s2 stp2 hg i=>by
  obtain ⟨ws,q1,q2⟩:=hq H2 Y2 s2 stp2;refine ⟨fun d hd=>?_,fun hl=>⟨ws,q1,by rw [q2.length];exact hl⟩⟩;obtain ⟨v,e1,e2⟩:=q2.get hd;refine ⟨⟨ws,v,q1,e1⟩,fun x H' ⟨e3,y⟩=>?_⟩;subst e3;have e4:=y ws q1;rw [e1] at e4;cases e4;exact ⟨Y2,.refl stp2.rep,e2⟩
 cases d with
 | tup xs=>
  have h1':okR (gm X) E H1 Y1 (zc5 (gm X)) (.ok (xs,[]) s1) Q:=h1;obtain ⟨a,vs,rfl,q1,q2⟩:=qS (K:=X.K) dn;refine ⟨a,rfl,.inr ⟨⟨vs,q1⟩,h1'.here stp.rep (tup a xs fun H2 Y2 s2 stp2=>?_)⟩⟩;have dn2:=dn.mono stp2;obtain ⟨a',ws,e,q3,q4⟩:=qS (K:=X.K) dn2;cases e;exact ⟨ws,q3,q4⟩ | lst xs=>
  have h1':okR (gm X) E H1 Y1 (zc5 (gm X)) (.ok (xs,[]) s1) Q:=h1;obtain ⟨a,vs,rfl,q1,q2⟩:=zJ (d:=.lst xs) stp.rep rfl dn;refine ⟨a,rfl,.inl ⟨⟨vs,.inl q1⟩,h1'.here stp.rep (lst a xs [] fun H2 Y2 s2 stp2 _=>?_)⟩⟩;obtain ⟨a',ws,e,q3,q4⟩:=zJ (d:=.lst xs) stp2.rep rfl (dn.mono stp2);cases e;exact ⟨ws,.inl q3,q4⟩ | loc l=>
  simp only at h1;split at h1
  ·rename_i xs ex;obtain ⟨a,vs,rfl,q1,q2⟩:=zJ (d:=.loc l) stp.rep ex dn;refine ⟨a,rfl,.inl ⟨⟨vs,.inl q1⟩,h1.here stp.rep (lst a xs [(l,xs)] fun H2 Y2 s2 stp2 hg=>?_)⟩⟩;obtain ⟨a',ws,e,q3,q4⟩:=zJ (d:=.loc l) stp2.rep (hg (l,xs) (by simp)) (dn.mono stp2);cases e;exact ⟨ws,.inl q3,q4⟩
  ·exact h1.elim | _=>exact h1.elim
end
section
variable {X:Cx}{E:XK}{e a b c tg:Expr}{es:List Expr}{pos:Pos}{CX:CXT}
def wr(n:Nat):List D:=(List.range n).map fun (k:Nat)=>D.int ((k:Nat):Int)
def z0x(f:FA):FI:=fun Z s=>(f Z s).bind fun ds s1=>match ds with
 | [.int j]=>if -(2 ^ 62)<=j/\j<2 ^ 62 then .ok (wr j.toNat,[]) s1 else .no | _=>.no
theorem wy{p:Pos}{f:FA}(hg:Gl X "range")(hm:X.mg "range"=none)(ha:RA X E [a] f)(hs:starEach [a] X.env=[(false,eval a X.env)]:=by rfl):RI X E tg (.Call (.Name "range" p) [a] [] pos) (z0x f):= z3f (zbV hg hm ha hs) fun O H Q ⟨Y,Z,s,r,en,h⟩=>by
  unfold z0x at h;refine ⟨Y,Z,s,r,en,(okR.bind (Dn:=zq (gm X)) h).imp fun vs H1 ⟨Y1,s1,ds,stp,dn,h1⟩=>?_⟩;split at h1
  ·rename_i j;split at h1
   ·rename_i hj;obtain ⟨v,rfl,d1⟩:=z1P dn;cases zQ d1;refine ⟨j,rfl,hj.1,hj.2,h1.here stp.rep fun H2 Y2 s2 stp2 _ i=>⟨fun d hd=>?_,fun hl=>?_⟩⟩
    ·have hi:i<j.toNat:=by
      have:=(_b.mp hd).1;simpa [wr] using this
     refine ⟨hi,fun x H' ⟨e1,e2⟩=>?_⟩;subst e1 e2;refine ⟨Y2,.refl stp2.rep,?_⟩;have e3:d=D.int i:=by
      simp only [wr,_P,_ck hi,_S,_w] at hd;exact hd.symm
     rw [e3];simp [Den]
    ·have:(wr j.toNat).length=j.toNat:=by simp [wr]
     show j.toNat<=i;rw [<- this];exact hl
   ·exact h1.elim
  ·exact h1.elim
open Classical in
def wU(g:List (Nat×List D))(all:List D)(body:D->Ev->Sto->R Fl):List D->Ev->Sto->R Fl
 | [],Z,s=>if okG g all s then .ok (.nx Z) s else .no | x::xs,Z,s=>if okG g all s then (body x Z s).bind fun fl s1=>match fl with
   | .nx Z'=>wU g all body xs Z' s1 | .ct Z'=>wU g all body xs Z' s1 | .bk Z'=>.ok (.nx Z') s1 | .rt d=>.ok (.rt d) s1 else .no
def z73(fi:FI)(fg:FG)(fb:FS):FS:=fun Z s=>(fi Z s).bind fun it s1=>wU it.2 it.1 (fun d Z s=>(fg d Z s).bind fun Z' s'=>fb Z' s') it.1 Z s1
theorem z36 {iter:Expr} {body:List Stmt} {fi:FI} {fg:FG} {fb:FS} (hp:PassesOwn (model X.prog X.w) X.A X.env X.xe) (hc:X.calm=true) (hi:RI X E tg iter fi) (hg:RG X E tg fg) (hb:RSs X E body fb) (hs:∀ x,foldedSetIterable iter X.env x=pure x:=by intro _;rfl):RS X E (.For tg iter body [] pos) (z73 fi fg fb):= vK (zhX hp hc hi hg hb hs) fun D O H ⟨Y,Z,s,r,en,h⟩=>by
  unfold z73 at h;refine ⟨Y,Z,s,r,en,(okR.bind (Dn:=zc5 (gm X)) h).imp fun J H1 ⟨Y1,s1,it,stp,ok,h1⟩=>?_⟩;obtain ⟨items,g⟩:=it;simp only at h1;refine ⟨fun i m O H=>∃ Y Z s,xr (gm X) H1 Y1 H Y s/\vG (gm X) H Y Z O/\m=items.length-i/\i<=items.length/\ okR (gm X) E H Y (FlD (gm X)) (wU g items (fun d Z s=>(fg d Z s).bind fun Z' s'=>fb Z' s') (items.drop i) Z s) (z3w D), ⟨items.length,Y1,Z,s1,.refl stp.rep,en.mono stp,by simp,_ae _,by simpa using h1⟩,?_⟩;rintro i m O H ⟨Y2,Z2,s2,stp2,en2,rfl,hil,h2⟩;by_cases hlt:i<items.length
  ·right;rw [_aF hlt,wU] at h2;split at h2
   ·rename_i hG;obtain ⟨go,yl⟩:=((ok H Y2 s2 stp2 hG i).1 items[i] (_e hlt));refine ⟨go,fun O' H'=>∃ Y Z s,xr (gm X) H1 Y1 H' Y s/\vG (gm X) H' Y Z O'/\okR (gm X) E H' Y (FlD (gm X)) (wU g items (fun d Z s=>(fg d Z s).bind fun Z' s'=>fb Z' s') (items.drop (i+1)) Z s) (z3w D), fun O' H' ⟨Y3,Z3,s3,q1,q2,q3⟩=>⟨items.length-(i+1),by omega,Y3,Z3,s3,q1,q2,rfl,hlt,q3⟩,fun x H' y=>?_⟩;obtain ⟨Y3,stp3,dn3⟩:=yl x H' y;have h3:=okR.rebase h2 stp3;have h4:=okR.bind (Dn:=FlD (gm X)) h3;refine ⟨Y3,Z2,s2,items[i],stp3.rep,en2.mono stp3,dn3,(okR.bind (Dn:=vG (gm X)) h4).imp fun O5 H5 ⟨Y5,s5,Z5,stp5,en5,h5⟩=>?_⟩;refine ⟨Y5,Z5,s5,stp5.rep,en5,h5.imp fun fv H6 ⟨Y6,s6,fl,stp6,dn6,q6⟩=>?_⟩;have all6:xr (gm X) H1 Y1 H6 Y6 s6:=(stp2.trans stp3).trans stp6;cases fl with
    | nx Z'=> cases fv with
     | nx O'=>exact ⟨Y6,Z',s6,all6,dn6,q6⟩ | _=>exact (show False from dn6).elim
    | ct Z'=> cases fv with
     | ct O'=>exact ⟨Y6,Z',s6,all6,dn6,q6⟩ | _=>exact (show False from dn6).elim
    | bk Z'=> cases fv with
     | bk O'=>exact okR.here (b:=FlV.nx O') (Q:=z3w D) (a:=Fl.nx Z') (s:=s6) q6 stp6.rep dn6 | _=>exact (show False from dn6).elim
    | rt d=> cases fv with
     | rt v=>exact okR.here (b:=FlV.rt v) (Q:=z3w D) (a:=Fl.rt d) (s:=s6) q6 stp6.rep dn6 | _=>exact (show False from dn6).elim
   ·exact h2.elim
  ·left;have e:i=items.length:=by omega
   subst e;rw [_b1,wU] at h2;split at h2
   ·rename_i hG;exact ⟨(ok H Y2 s2 stp2 hG _).2 (_g _),okR.here (b:=FlV.nx O) (Q:=z3w D) h2 stp2.rep en2⟩
   ·exact h2.elim
end
end Dd
namespace Zz
def Sit(b:Bool)(h:Heap)(it l:Addr)(k:Nat):Prop:=match b with
 | true=>h.IsListIter it l k | false=>h.IsTupleIter it l k
def Sco(b:Bool)(h:Heap)(l:Addr)(xs:Array Value):Prop:=match b with
 | true=>h.IsList l xs | false=>h.IsTuple l xs
theorem Sit.to{b:Bool}{h h':Heap}{it l:Addr}{k:Nat}(x:Sit b h it l k)(e:∀ o,h.get? it=some o->h'.get? it=some o):Sit b h' it l k:=by cases b with
 | true=>obtain ⟨o,ho,r⟩:=x;exact ⟨o,e _ ho,r⟩ | false=>obtain ⟨o,ho,r⟩:=x;exact ⟨o,e _ ho,r⟩
theorem Sco.to{b:Bool}{h h':Heap}{l:Addr}{xs:Array Value}(x:Sco b h l xs)(e:∀ o,h.get? l=some o->h'.get? l=some o):Sco b h' l xs:=by cases b with
 | true=>obtain ⟨o,ho,r⟩:=x;exact ⟨o,e _ ho,r⟩ | false=>obtain ⟨o,ho,r⟩:=x;exact ⟨o,e _ ho,r⟩
theorem Sit.lt{b:Bool}{h:Heap}{it l:Addr}{k:Nat}(x:Sit b h it l k):it<h.objs.size:=by cases b with
 | true=>obtain ⟨o,ho,r⟩:=x;exact _l ho | false=>obtain ⟨o,ho,r⟩:=x;exact _l ho
theorem Sit.ob{b:Bool}{h:Heap}{it l:Addr}{k:Nat}(x:Sit b h it l k):∃ o,h.get? it=some o/\∀ v,o.data≠.cell v:=by cases b with
 | true=>obtain ⟨o,ho,_,d⟩:=x;exact ⟨o,ho,fun v z=>by rw [d] at z;cases z⟩ | false=>obtain ⟨o,ho,_,d⟩:=x;exact ⟨o,ho,fun v z=>by rw [d] at z;cases z⟩
section
variable {P:Program}{w:World}{A:Around}{E:Value->Shared->Prop}{s:Shared}
theorem zhc{it l:Addr}{k:Nat}{xs:Array Value}{x:Value}{R:Value->Shared->Prop}(h1:s.heap.IsTupleIter it l k)(h2:s.heap.IsTuple l xs)(e:xs[k]? = some x) (q:∀ h',h'.IsTupleIter it l (k+1)->Heap.SameBut it s.heap h'->R x {s with heap:=h'}):wpAny (model P w) A (Builtin.SmallTypes.nextOf (.ref it)) R E s:=by
 obtain ⟨o,ho,hc,hd⟩:=id h1;obtain ⟨ol,hol,_,nl,hdl⟩:=h2;unfold Builtin.SmallTypes.nextOf;refine _a (_G (name:=Str.ofString "__next__") h1.typeIs _aW (_I _aW h1.typeIs F.entry_tuple_iterator_next ?_ (F.args_tuple_iterator_next_1 _)));show wpAny _ _ (field (.ref it) 0 >>= _) _ _ s;refine _a (_R ho hd (x:=.ref l) rfl ?_);show wpAny _ _ (if (Value.ref l==Value.none)=true then _ else _) _ _ s;rw [_q (show ¬ ((Value.ref l==Value.none)=true) from _N)];show wpAny _ _ (field (.ref it) 1 >>= _) _ _ s;refine _a (_R ho hd (x:=.int k 0) rfl ?_);show wpAny _ _ (seqItems? (.ref l) >>= _) _ _ s;refine _a (_aX hol hdl ?_);simp only [_bo,e];refine _a (_bp ho hd (by simp) (_c ⟨x,rfl,_c (q _ ?_ (_ap ..))⟩));exact ⟨_,_bm _ ho (Obj.isFreed_of_fields (Obj.data_mapFields hd _)),(Obj.cls_mapFields ..).trans hc,by rw [Obj.data_mapFields hd];simp [rawInt]⟩
theorem z8Y {it l:Addr} {k:Nat} {xs:Array Value} {R:Value->Shared->Prop} (hh:A.handled=none) (h1:s.heap.IsTupleIter it l k) (h2:s.heap.IsTuple l xs) (e:xs[k]? = none) (q:∀ h' e,Heap.ExtBut it s.heap h'->(∃ o,h'.get? e=some o/\o.cls=.type "StopIteration")->E (.ref e) {s with heap:=h'}):wpAny (model P w) A (Builtin.SmallTypes.nextOf (.ref it)) R E s:=by
 obtain ⟨o,ho,hc,hd⟩:=id h1;obtain ⟨ol,hol,_,nl,hdl⟩:=h2;unfold Builtin.SmallTypes.nextOf;refine _a (_G (name:=Str.ofString "__next__") h1.typeIs _aW (_I _aW h1.typeIs F.entry_tuple_iterator_next ?_ (F.args_tuple_iterator_next_1 _)));show wpAny _ _ (field (.ref it) 0 >>= _) _ _ s;refine _a (_R ho hd (x:=.ref l) rfl ?_);show wpAny _ _ (if (Value.ref l==Value.none)=true then _ else _) _ _ s;rw [_q (show ¬ ((Value.ref l==Value.none)=true) from _N)];show wpAny _ _ (field (.ref it) 1 >>= _) _ _ s;refine _a (_R ho hd (x:=.int k 0) rfl ?_);show wpAny _ _ (seqItems? (.ref l) >>= _) _ _ s;refine _a (_aX hol hdl ?_);simp only [_bo,e];refine _a (_b0 (_a (_bp ho hd (by simp) ?_)));show wpAny _ _ (newExc (.type "StopIteration") [] >>= _) _ _ _;refine _a ?_;simp only [newExc,newTuple];refine _a (_L ?_ (by size_fits));refine _a (m:=firstArgMember _ _) (wpAny_of_eq (a:=Value.none) (by first | rfl | (simp only [firstArgMember];rfl)) ?_);refine _L ?_ (by size_fits);simp only [raiseNew];refine _a (wpAny_handled ?_);first | rw [show A.in1.handled=none from hh] | rw [hh]
 refine _a (_c (wpAny_throw ?_));exact q _ _ (((_ap ..).extBut.push _).push _) ⟨_,_h _ rfl,rfl⟩
theorem nx{b:Bool}{it l:Addr}{k:Nat}{xs:Array Value}{x:Value}{R:Value->Shared->Prop}(h1:Sit b s.heap it l k)(h2:Sco b s.heap l xs)(e:xs[k]? = some x) (q:∀ h',Sit b h' it l (k+1)->Heap.SameBut it s.heap h'->R x {s with heap:=h'}):wpAny (model P w) A (Builtin.SmallTypes.nextOf (.ref it)) R E s:=by cases b with
 | true=>exact wpAny_nextOf_list_item h1 h2 e q | false=>exact zhc h1 h2 e q
theorem za9 {b:Bool} {it l:Addr} {k:Nat} {xs:Array Value} {R:Value->Shared->Prop} (hh:A.handled=none) (h1:Sit b s.heap it l k) (h2:Sco b s.heap l xs) (e:xs[k]? = none) (q:∀ h' e,Heap.ExtBut it s.heap h'->(∃ o,h'.get? e=some o/\o.cls=.type "StopIteration")->E (.ref e) {s with heap:=h'}):wpAny (model P w) A (Builtin.SmallTypes.nextOf (.ref it)) R E s:=by cases b with
 | true=>exact wpAny_nextOf_list_end hh h1 h2 e q | false=>exact z8Y hh h1 h2 e q
theorem zo{a:Addr}{h h':Heap}(hs:Heap.SameBut a h h'){b:Addr}{o:Obj}(n:b≠a)(e:h.get? b=some o):h'.get? b=some o:=hs.extBut _ _ n e
theorem zf7 {z TI TO i1 i2 l1 l2:Addr} {b1 b2:Bool} {k:Nat} {xs ys:Array Value} {x y a b:Value} {Q:Option Value->Shared->Prop} (D:ZipApart z TI TO i1 i2 l1 l2) (hz:IsZip s.heap z TI TO .none) (hTI:IsPair s.heap TI (.ref i1) (.ref i2)) (hTO:IsPair s.heap TO a b) (h1:Sit b1 s.heap i1 l1 k) (h2:Sit b2 s.heap i2 l2 k) (c1:Sco b1 s.heap l1 xs) (c2:Sco b2 s.heap l2 ys) (ex:xs[k]? = some x) (ey:ys[k]? = some y) (q:∀ h',IsZip h' z TI TO (rawInt s.heap.objs.size)->IsPair h' TO x y->Sit b1 h' i1 l1 (k+1)->Sit b2 h' i2 l2 (k+1)->IsPair h' s.heap.objs.size x y->h'.objs.size=s.heap.objs.size+1-> (∀ c o,c≠z->c≠TO->c≠i1->c≠i2->s.heap.get? c=some o->h'.get? c=some o)->Q (some (.ref s.heap.objs.size)) {s with heap:=h'}):wpAny (model P w) A (pyNext (.ref z)) Q E s:=by
 have hT:s.TypeIs (.ref z) "zip":=⟨_,hz,rfl⟩;unfold pyNext;refine _a (_bb (_G (name:=Str.ofString "__next__") hT _cg (_I _cg hT F.entry_zip_next (Q:=fun v s'=>wpAny (model P w) A (pure (some v)) Q E s') ?_ (F.args_zip_next_1 _))));show wpAny _ _ (field (.ref z) 2 >>= _) _ _ _;refine _a (_R hz rfl (x:=.bool false) rfl ?_);show wpAny _ _ (field (.ref z) 3 >>= _) _ _ _;refine _a (_R hz rfl (x:=.ref TI) rfl ?_);refine _a (_aX hTI rfl ?_);show wpAny _ _ (Builtin.SmallTypes.ownedTupleIsFree (.ref z) >>= _) _ _ _;refine _a ?_;unfold Builtin.SmallTypes.ownedTupleIsFree;refine _a (_R hz rfl (x:=.none) rfl (_c ?_));simp only [_H];refine _a (_b0 ?_);refine _a (_R hz rfl (x:=.ref TO) rfl ?_);refine _a (_Y hz (by simp) fun g1 z1 s1=>?_);replace z1:IsZip g1 z TI TO .ellipsis:=z1;refine _a ?_;simp only [_dc,List.zipIdx_nil,List.forIn_cons,List.forIn_nil];refine _a (_a (_cZ ?_));show wpAny _ _ (Builtin.SmallTypes.nextOf (.ref i1) >>= _) _ _ _;refine _a (nx (h1.to fun o e=>zo s1 D.i1z e) (c1.to fun o e=>zo s1 D.l1z e) ex fun g2 t2 s2=>_c ?_);have o2:IsPair g2 TO a b:=zo s2 D.TOi1 (zo s1 D.TOz hTO);refine _a (_aX o2 rfl ?_);refine _a (_b9 o2 fun g3 o3 s3=>?_);replace o3:IsPair g3 TO x b:=o3;refine _a (wpAny_letGo (_c ?_));refine _a (_a (_cZ ?_));show wpAny _ _ (Builtin.SmallTypes.nextOf (.ref i2) >>= _) _ _ _;refine _a (nx (h2.to fun o e=>zo s3 D.TOi2.symm (zo s2 D.i12.symm (zo s1 D.i2z e))) (c2.to fun o e=>zo s3 D.l2TO (zo s2 D.l2i1 (zo s1 D.l2z e))) ey fun g4 t4 s4=>_c ?_);have o4:IsPair g4 TO x b:=zo s4 D.TOi2 o3;refine _a (_aX o4 rfl ?_);refine _a (_b9 o4 fun g5 o5 s5=>?_);replace o5:IsPair g5 TO x y:=o5;refine _a (wpAny_letGo (_c (_c ?_)));refine _a (_aX o5 rfl ?_);refine _a (_cw ?_);have sz:g5.objs.size=s.heap.objs.size:=by rw [s5.1,s4.1,s3.1,s2.1,s1.1]
 have z5:IsZip g5 z TI TO .ellipsis:=zo s5 D.TOz.symm (zo s4 D.i2z.symm (zo s3 D.TOz.symm (zo s2 D.i1z.symm z1)));have k5:∀ c o,c≠z->c≠TO->c≠i1->c≠i2->s.heap.get? c=some o->g5.get? c=some o:=fun c o n1 n2 n3 n4 e=>zo s5 n2 (zo s4 n4 (zo s3 n2 (zo s2 n3 (zo s1 n1 e))));have t5:Sit b1 g5 i1 l1 (k+1):=t2.to fun o e=>zo s5 D.TOi1.symm (zo s4 D.i12 (zo s3 D.TOi1.symm e));have u5:Sit b2 g5 i2 l2 (k+1):=t4.to fun o e=>zo s5 D.TOi2.symm e;have zl:z<g5.objs.size:=_l z5;show wpAny _ _ (Builtin.SmallTypes.ownedTupleHandOut (.ref z) (.ref g5.objs.size) >>= _) _ _ _;refine _a ?_;unfold Builtin.SmallTypes.ownedTupleHandOut;have z6:IsZip (g5.push {cls:=.type "tuple",data:=.seq #[x,y]}) z TI TO .ellipsis:=_d _ z5;refine _a (_Y z6 (by simp) fun g7 z7 s7=>?_);replace z7:IsZip g7 z TI TO (rawInt g5.objs.size):=z7;refine _Y z7 (by simp) fun g8 z8 s8=>?_;replace z8:IsZip g8 z TI TO (rawInt g5.objs.size):=z8;have up:∀ c o,c≠z->g5.get? c=some o->g8.get? c=some o:=fun c o n e=>zo s8 n (zo s7 n (_d _ e));have p8:IsPair g8 g5.objs.size x y:=zo s8 (_cn zl) (zo s7 (_cn zl) (_h _ rfl));have e8:g8.objs.size=g5.objs.size+1:=by rw [s8.1,s7.1,_al]
 rw [sz] at z8 p8 e8;refine _c ⟨_,rfl,_c ?_⟩;show Q (some (.ref g5.objs.size)) _;rw [sz];exact q g8 z8 (up _ _ D.TOz o5) (t5.to fun o e=>up _ o D.i1z e) (u5.to fun o e=>up _ o D.i2z e) p8 e8 fun c o n1 n2 n3 n4 e=>up c o n1 (k5 c o n1 n2 n3 n4 e)
theorem ziA {z TI TO i1 i2 l1 l2:Addr} {b1 b2:Bool} {k:Nat} {xs ys:Array Value} {a b:Value} {Q:Option Value->Shared->Prop} (hh:A.handled=none) (D:ZipApart z TI TO i1 i2 l1 l2) (hz:IsZip s.heap z TI TO .none) (hTI:IsPair s.heap TI (.ref i1) (.ref i2)) (hTO:IsPair s.heap TO a b) (h1:Sit b1 s.heap i1 l1 k) (h2:Sit b2 s.heap i2 l2 k) (c1:Sco b1 s.heap l1 xs) (c2:Sco b2 s.heap l2 ys) (en:xs[k]? = none\/ys[k]? = none) (q:∀ h',(∀ c o,c≠z->c≠TO->c≠i1->c≠i2->s.heap.get? c=some o->h'.get? c=some o)->Q none {s with heap:=h'}):wpAny (model P w) A (pyNext (.ref z)) Q E s:=by
 have hT:s.TypeIs (.ref z) "zip":=⟨_,hz,rfl⟩;have fin:∀ h' e,(∀ c o,c≠z->c≠TO->c≠i1->c≠i2->s.heap.get? c=some o->h'.get? c=some o)->(∃ o,h'.get? e=some o/\o.cls=.type "StopIteration")-> wpAny (model P w) A (isInstance (.ref e) (.type "StopIteration") >>= fun b=>if b=true then (pure none:Sem (Option Value)) else throw (.ref e)) Q E {s with heap:=h'}:=fun h' e hk he=>by
  obtain ⟨o,ho,hc⟩:=he;refine _a (_b2 (T:="StopIteration") (b:=true) ⟨o,ho,hc⟩ _cx ?_);exact _c (q _ hk)
 unfold pyNext;refine _a (_bb (_G (name:=Str.ofString "__next__") hT _cg (_I _cg hT F.entry_zip_next ?_ (F.args_zip_next_1 _))));show wpAny _ _ (field (.ref z) 2 >>= _) _ _ _;refine _a (_R hz rfl (x:=.bool false) rfl ?_);show wpAny _ _ (field (.ref z) 3 >>= _) _ _ _;refine _a (_R hz rfl (x:=.ref TI) rfl ?_);refine _a (_aX hTI rfl ?_);show wpAny _ _ (Builtin.SmallTypes.ownedTupleIsFree (.ref z) >>= _) _ _ _;refine _a ?_;unfold Builtin.SmallTypes.ownedTupleIsFree;refine _a (_R hz rfl (x:=.none) rfl (_c ?_));simp only [_H];refine _a (_b0 ?_);refine _a (_R hz rfl (x:=.ref TO) rfl ?_);refine _a (_Y hz (by simp) fun g1 z1 s1=>?_);replace z1:IsZip g1 z TI TO .ellipsis:=z1;refine _a ?_;simp only [_dc,List.zipIdx_nil,List.forIn_cons,List.forIn_nil];refine _a (_a (_cZ ?_));show wpAny _ _ (Builtin.SmallTypes.nextOf (.ref i1) >>= _) _ _ _;cases ex:xs[k]? with
 | none=>
  refine _a (za9 hh (h1.to fun o e=>zo s1 D.i1z e) (c1.to fun o e=>zo s1 D.l1z e) ex fun g2 e s2 he=>?_);obtain ⟨oe,hoe,hce⟩:=he;have z2:IsZip g2 z TI TO .ellipsis:=s2 _ _ D.i1z.symm z1;have ez:e≠z:=fun t=>by subst t;rw [z2] at hoe;cases hoe;simp at hce
  exact _Y z2 (by simp) fun g3 _ s3=>fin g3 e (fun c o n1 _ n3 _ t=>zo s3 n1 (s2 _ _ n3 (zo s1 n1 t))) ⟨oe,zo s3 ez hoe,hce⟩ | some x=>
  have ey:ys[k]? = none:=by rcases en with t | t;rw [ex] at t;cases t;exact t
  refine _a (nx (h1.to fun o e=>zo s1 D.i1z e) (c1.to fun o e=>zo s1 D.l1z e) ex fun g2 t2 s2=>_c ?_);have o2:IsPair g2 TO a b:=zo s2 D.TOi1 (zo s1 D.TOz hTO);refine _a (_aX o2 rfl ?_);refine _a (_b9 o2 fun g3 o3 s3=>?_);refine _a (wpAny_letGo (_c ?_));refine _a (_a (_cZ ?_));show wpAny _ _ (Builtin.SmallTypes.nextOf (.ref i2) >>= _) _ _ _;refine _a (za9 hh (h2.to fun o e=>zo s3 D.TOi2.symm (zo s2 D.i12.symm (zo s1 D.i2z e))) (c2.to fun o e=>zo s3 D.l2TO (zo s2 D.l2i1 (zo s1 D.l2z e))) ey fun g4 e s4 he=>?_);obtain ⟨oe,hoe,hce⟩:=he;have z4:IsZip g4 z TI TO .ellipsis:=s4 _ _ D.i2z.symm (zo s3 D.TOz.symm (zo s2 D.i1z.symm z1));have ez:e≠z:=fun t=>by subst t;rw [z4] at hoe;cases hoe;simp at hce
  exact _Y z4 (by simp) fun g5 _ s5=>fin g5 e (fun c o n1 n2 n3 n4 t=>zo s5 n1 (s4 _ _ n4 (zo s3 n2 (zo s2 n3 (zo s1 n1 t))))) ⟨oe,zo s5 ez hoe,hce⟩
end
def itO(b:Bool)(l:Addr):Obj:=match b with
 | true=>{cls:=.type "list_iterator",data:=.fields #[.ref l,.int 0 0]} | false=>{cls:=.type "tuple_iterator",data:=.fields #[.ref l,.int 0 0]}
theorem z5u{b:Bool}{h:Heap}{a l:Addr}(e:h.get? a=some (itO b l)):Sit b h a l 0:=by cases b with
 | true=>exact ⟨_,e,rfl,rfl⟩ | false=>exact ⟨_,e,rfl,rfl⟩
theorem z1A(b:Bool)(l:Addr):(itO b l).isFreed=false:=by cases b<;>rfl
section
variable {P:Program}{w:World}{A:Around}{E:Value->Shared->Prop}{s:Shared}
theorem z3o {b:Bool} {l:Addr} {xs:Array Value} {Q:Value->Shared->Prop} (h:Sco b s.heap l xs) (q:Q (.ref s.heap.objs.size) {s with heap:=s.heap.push (itO b l)}):wpAny (model P w) A (pyIter (.ref l)) Q E s:=by cases b with
 | true=>exact wpAny_pyIter_list h q | false=>exact wpAny_pyIter_tuple h q
end
abbrev G1(b1:Bool)(h:Heap)(l1:Addr):Heap:=h.push (itO b1 l1)
abbrev G2(b1 b2:Bool)(h:Heap)(l1 l2:Addr):Heap:=(G1 b1 h l1).push (itO b2 l2)
abbrev G3(b1 b2:Bool)(h:Heap)(l1 l2:Addr):Heap:=(G2 b1 b2 h l1 l2).push {cls:=.type "tuple",data:=.seq #[.ref h.objs.size,.ref (G1 b1 h l1).objs.size]}
abbrev G4(b1 b2:Bool)(h:Heap)(l1 l2:Addr):Heap:=(G3 b1 b2 h l1 l2).push {cls:=.type "tuple",data:=.seq #[.none,.none]}
abbrev G5(b1 b2:Bool)(h:Heap)(l1 l2:Addr):Heap:=(G4 b1 b2 h l1 l2).push {cls:=.type "zip",data:=.fields #[.none,.bool false,.bool false,.ref (G2 b1 b2 h l1 l2).objs.size,.ref (G3 b1 b2 h l1 l2).objs.size]}
theorem zbW (b1 b2:Bool) (l1 l2:Addr) (xs ys:Array Value): Meets (Builtin.«zip.__new__» ⟨[.type "zip",.ref l1,.ref l2],[]⟩) (fun _ R s=>Sco b1 s.heap l1 xs/\Sco b2 s.heap l2 ys/\R (.ok (.ret (.ref (G4 b1 b2 s.heap l1 l2).objs.size))) {s with heap:=G5 b1 b2 s.heap l1 l2}):= .of_wp fun prog w A R s h=>by
  obtain ⟨hp,g,d,tk,os⟩:=s;obtain ⟨c1,c2,h⟩:=h;have hsub:=sub_zip;have q1:Sco b1 (Shared.heap ⟨hp,g,d,tk,os⟩) l1 xs:=c1;have q2:Sco b2 (Shared.heap ⟨hp.push (itO b1 l1),g,d,tk,os⟩) l2 ys:=c2.to fun o e=>_d _ e;wp_walk using z3o q1,z3o q2;exact ⟨_,rfl,h⟩
section
variable {P:Program}{w:World}{A:Around}{E:Value->Shared->Prop}{s:Shared}
theorem zdj {b1 b2:Bool} {l1 l2:Addr} {xs ys:Array Value} {Q:Value->Shared->Prop} (c1:Sco b1 s.heap l1 xs) (c2:Sco b2 s.heap l2 ys) (h:∀ h',IsZip h' (s.heap.objs.size+4) (s.heap.objs.size+2) (s.heap.objs.size+3) .none->IsPair h' (s.heap.objs.size+2) (.ref s.heap.objs.size) (.ref (s.heap.objs.size+1))-> IsPair h' (s.heap.objs.size+3) .none .none->Sit b1 h' s.heap.objs.size l1 0->Sit b2 h' (s.heap.objs.size+1) l2 0->(∀ c o,s.heap.get? c=some o->h'.get? c=some o)->Q (.ref (s.heap.objs.size+4)) {s with heap:=h'}): wpAny (model P w) A (call (.type "zip") [.ref l1,.ref l2]) Q E s:=by
 refine callType_new F.called_zip (by decide) (F.typeCall_zip_2 _ _) (F.newCall_zip_2 _ _) (fun obj=>F.args_object_init_3 obj _ _) F.entry_zip_new (zbW b1 b2 l1 l2 xs ys) ⟨c1,c2,?_⟩;have z1:(G1 b1 s.heap l1).objs.size=s.heap.objs.size+1:=_al ..;have z2:(G2 b1 b2 s.heap l1 l2).objs.size=s.heap.objs.size+2:=by rw [_al,z1]
 have z3:(G3 b1 b2 s.heap l1 l2).objs.size=s.heap.objs.size+3:=by rw [_al,z2]
 have z4:(G4 b1 b2 s.heap l1 l2).objs.size=s.heap.objs.size+4:=by rw [_al,z3]
 have up:∀ {h:Heap} {o:Obj} {c:Addr} {u:Obj},h.get? c=some u->(h.push o).get? c=some u:=fun e=>_d _ e;have g5:(G5 b1 b2 s.heap l1 l2).get? (G4 b1 b2 s.heap l1 l2).objs.size=some _:=_h _ rfl;have g4:(G5 b1 b2 s.heap l1 l2).get? (G3 b1 b2 s.heap l1 l2).objs.size=some _:=up (_h _ rfl);have g3:(G5 b1 b2 s.heap l1 l2).get? (G2 b1 b2 s.heap l1 l2).objs.size=some _:=up (up (_h _ rfl));have g2:(G5 b1 b2 s.heap l1 l2).get? (G1 b1 s.heap l1).objs.size=some (itO b2 l2):=up (up (up (_h _ (z1A b2 l2))));have g1:(G5 b1 b2 s.heap l1 l2).get? s.heap.objs.size=some (itO b1 l1):=up (up (up (up (_h _ (z1A b1 l1)))));show _/\_;rw [z2,z3,z4] at g5;rw [z1,z2] at g3;rw [z3] at g4;rw [z1] at g2;rw [z4];exact ⟨⟨_,g5,rfl⟩,h _ g5 g3 g4 (z5u g1) (z5u g2) fun c o e=>up (up (up (up (up e))))⟩
end
end Zz
namespace L2
open Zz
def Sq(b:Bool)(K:W.Frag)(H:Hp)(a:Addr)(xs:List V):Prop:=match b with
 | true=>SqL K H a xs | false=>SqT K H a xs
section
variable {X:Cx}{pins:List (Addr×Obj)}{O:St}{H:Hp}{s:Shared}{h':Heap}
theorem Inv.sq{b:Bool}{a:Addr}{xs:List V}(I:Inv X pins O H s)(h:Sq b X.K H a xs):∃ its:List Value,ym xs its/\Sco b s.heap a its.toArray:=by cases b with
 | true=>obtain ⟨its,r,p,_⟩:=I.list h;exact ⟨its,r,p.isList⟩ | false=>obtain ⟨its,r,p,_⟩:=I.tuple h;exact ⟨its,r,p⟩
theorem Inv.sq_inj{b:Bool}{a:Addr}{xs ys:List V}(I:Inv X pins O H s)(h:Sq b X.K H a xs)(h':Sq b X.K H a ys):xs=ys:=by cases b with
 | true=>exact I.list_inj h h' | false=>exact I.tuple_inj h h'
theorem Inv.turnedL {t':Nat} {ch:List Addr} (I:Inv X pins O H s) (k:∀ b o,b∉ch->s.heap.get? b=some o->h'.get? b=some o) (f:∀ b∈ch,z2G X pins H b):Inv X pins O H {s with heap:=h',toks:=t'}:=by
 have nit:∀ b u,H b=some u->b∉ch:=fun b u e z=>by rw [(f b z).1] at e;cases e
 refine I.step (g':=s.gens) (d':=s.drawn) (ch:=ch) (fun b hb=>⟨(f b hb).2.2.2.1,(f b hb).2.1,(f b hb).2.2.2.2.1,(f b hb).2.2.2.2.2⟩) (fun b o _ _ hc e _=>k b o hc e) (fun b o _ _ hc e _=>⟨o.slots,k b o hc e⟩) (fun _ _ _ _ n=>n) (fun b o hc e=>⟨o,k b o hc e⟩) (fun _ _ e=>e) (fun _ _ _ e=>e) (fun b ps e=>⟨#[],by rw [e];simp⟩) (fun m hm=>?_) (fun b u e=>?_) I.bare
 ·obtain ⟨o,es,ep,ho,r⟩:=hm;exact ⟨o,es,ep,k _ o (fun z=>(f _ z).2.1 rfl) ho,r⟩
 ·refine (I.hok b u e).stay (fun c v hc q=>k c v ?_ q) (fun _ q=>q) fun _ _ q=>q;rcases hc with z | z;·rw [z];exact nit b u e
  ·exact nit c _ z
end
def Itz(K:W.Frag)(b1 b2:Bool)(l1 l2:Addr):It:= ⟨fun i H=>∃ xs ys x y,Sq b1 K H l1 xs/\Sq b2 K H l2 ys/\xs[i]? = some x/\ys[i]? = some y, fun i H v H'=>∃ T x y,H T=none/\v=.ref T/\H'=upd H T (.tup [x,y])/\(∀ xs,Sq b1 K H l1 xs->xs[i]? = some x)/\∀ ys,Sq b2 K H l2 ys->ys[i]? = some y, fun i H=>∃ xs ys,Sq b1 K H l1 xs/\Sq b2 K H l2 ys/\(xs.length<=i\/ys.length<=i)⟩
theorem zde {P:Program} {w:World} {K:W.Frag} {elts:List Expr} {kt:Nat} {tp:Pos} {b1 b2:Bool} {z TI TO i1 i2 l1 l2:Addr} (D:ZipApart z TI TO i1 i2 l1 l2): zcI P w K (.Tuple elts kt tp) (Itz K b1 b2 l1 l2) [z,TI,TO,i1,i2] z (fun i h=>IsZip h z TI TO .none/\IsPair h TI (.ref i1) (.ref i2)/\(∃ a b,IsPair h TO a b)/\Sit b1 h i1 l1 i/\Sit b2 h i2 l2 i) where
 mem:=by simp
 obj:=fun i h ⟨hz,hTI,⟨a,b,hTO⟩,h1,h2⟩ c hc=>by
  have hc':c=z\/c=TI\/c=TO\/c=i1\/c=i2:=by simpa using hc
  rcases hc' with rfl | rfl | rfl | rfl | rfl;·exact ⟨_,hz,fun v e=>by simp at e⟩
  ·exact ⟨_,hTI,fun v e=>by simp at e⟩
  ·exact ⟨_,hTO,fun v e=>by simp at e⟩
  ·exact h1.ob
  ·exact h2.ob
 keep:=fun i h h' ⟨hz,hTI,⟨a,b,hTO⟩,h1,h2⟩ k=>⟨k z (by simp) _ hz,k TI (by simp) _ hTI,⟨a,b,k TO (by simp) _ hTO⟩,h1.to fun o e=>k i1 (by simp) o e,h2.to fun o e=>k i2 (by simp) o e⟩;item:=by
  intro X hP hw hK hc i pins s O H E I hf ⟨hz,hTI,⟨a,b,hTO⟩,h1,h2⟩ ⟨xs,ys,x,y,qx,qy,ex,ey⟩;subst hP hw hK;obtain ⟨ix,rx,cx⟩:=I.sq qx;obtain ⟨iy,ry,cy⟩:=I.sq qy;obtain ⟨u,hu,ru⟩:=rx.get ex;obtain ⟨v,hv,rv⟩:=ry.get ey;refine zf7 D hz hTI hTO h1 h2 cx cy (x:=u) (y:=v) (by simpa using hu) (by simpa using hv) fun g a1 a2 a3 a4 a5 a6 hk=>⟨_,rfl,?_⟩;have kk:∀ c o,c∉[z,TO,i1,i2]->s.heap.get? c=some o->g.get? c=some o:=fun c o n e=>hk c o (fun t=>n (by simp [t])) (fun t=>n (by simp [t])) (fun t=>n (by simp [t])) (fun t=>n (by simp [t])) e;have sub:∀ c∈[z,TO,i1,i2],c∈[z,TI,TO,i1,i2]:=fun c hc=>by
   have:c=z\/c=TO\/c=i1\/c=i2:=by simpa using hc
   rcases this with rfl | rfl | rfl | rfl<;>simp
  have I1:Inv X pins O H {s with heap:=g}:=I.turnedL (t':=s.toks) kk fun c hc=>hf c (sub c hc);refine wpAny_letOwnedTupleGo_zip a1 fun g2 z2 s2=>?_;obtain ⟨f0,f1,f2,f3,f4,f5⟩:=hf z (by simp);have I2:Inv X pins O H {s with heap:=g2}:=I1.turned (t':=s.toks) (fun c o n e=>zo s2 n e) f0 f1 f3 f4 f5;have new:z2G X pins H s.heap.objs.size:=I.fpOk (_g _) (I.hok.fresh (_g _));have ne:∀ {c:Addr} {o:Obj},s.heap.get? c=some o->c≠s.heap.objs.size:=fun e=>_x (_l e);have p2:IsPair g2 s.heap.objs.size u v:=zo s2 (ne hz).symm a5;refine ⟨.ref s.heap.objs.size,upd H s.heap.objs.size (.tup [x,y]),I2.track new ⟨?_,[u,v],.cons ru (.cons rv .nil),⟨_,p2,rfl,rfl,_,rfl⟩⟩,rfl,⟨_,x,y,new.1,rfl,rfl,fun zs qz=>?_,fun zs qz=>?_⟩,⟨z2,?_,⟨_,_,zo s2 D.TOz a2⟩,a3.to fun o e=>zo s2 D.i1z e,a4.to fun o e=>zo s2 D.i2z e⟩,fun c hc=>?_⟩;·show 2<=sizeLine;decide
  ·rw [I.sq_inj qz qx];exact ex
  ·rw [I.sq_inj qz qy];exact ey
  ·exact zo s2 D.TIz (hk TI _ D.TIz D.TITO D.TIi1 D.TIi2 hTI)
  ·have hc':c=z\/c=TI\/c=TO\/c=i1\/c=i2:=by simpa using hc
   have:c≠s.heap.objs.size:=by
    rcases hc' with rfl | rfl | rfl | rfl | rfl;·exact ne hz
    ·exact ne hTI
    ·exact ne hTO
    ·exact _x h1.lt
    ·exact _x h2.lt
   rw [zx this];exact (hf c hc).1
 done:=by
  intro X hP hw hK hc i pins s O H E I hf ⟨hz,hTI,⟨a,b,hTO⟩,h1,h2⟩ ⟨xs,ys,qx,qy,hl⟩;subst hP hw hK;obtain ⟨ix,rx,cx⟩:=I.sq qx;obtain ⟨iy,ry,cy⟩:=I.sq qy;have lx:=rx.length;have ly:=ry.length;refine ziA (I.ok.hd hc) D hz hTI hTO h1 h2 cx cy ?_ fun g hk=>⟨rfl,?_⟩
  ·rcases hl with hl | hl;·exact .inl (by simp;omega)
   ·exact .inr (by simp;omega)
  ·exact I.turnedL (t':=s.toks) (ch:=[z,TO,i1,i2]) (fun c o n e=>hk c o (fun t=>n (by simp [t])) (fun t=>n (by simp [t])) (fun t=>n (by simp [t])) (fun t=>n (by simp [t])) e) fun c hc=>hf c (by
    have:c=z\/c=TO\/c=i1\/c=i2:=by simpa using hc
    rcases this with rfl | rfl | rfl | rfl<;>simp)
 self:=fun _ _ _ _ _ st h=>wpAny_pyIter_zip st.1 h
theorem ziP{X:Cx}{elts:List Expr}{kt:Nat}{tp:Pos}{a b:Expr}{ta:TA}{p pos:Pos}(hg:Gl X "zip")(hm:X.mg "zip"=none)(ha:PA X [a,b] ta)(hs:starEach [a,b] X.env=(false,eval a X.env)::starEach [b] X.env:=by rfl)(hpl:(backTo pos (starEach [b] X.env)).any (·.1)=false:=by rfl): PI X (.Tuple elts kt tp) (.Call (.Name "zip" p) [a,b] [] pos) (fun O H R=>ta O H fun vs H1=>∃ l1 l2 b1 b2,vs=[.ref l1,.ref l2]/\(∃ xs,Sq b1 X.K H1 l1 xs)/\(∃ ys,Sq b2 X.K H1 l2 ys)/\R (Itz X.K b1 b2 l1 l2) H1):=by
 intro pins s O H R I h;refine _ax (z2w I hg hm (u:=.type "zip") (by first | exact PySem.boot_zip | rfl | decide +kernel) ?_ (by decide) (by decide));refine _aA (thn (ha pos pins s O H _ I h) fun us s1 ⟨vs,H1,I1,r1,q1⟩=>?_) hs hpl;obtain ⟨l1,l2,b1,b2,rfl,⟨xs,qx⟩,⟨ys,qy⟩,q⟩:=q1;cases r1 with | cons r1 r2=> cases r2 with | cons r2 r3=>
   cases r3;cases r1;cases r2;obtain ⟨ix,rx,cx⟩:=I1.sq qx;obtain ⟨iy,ry,cy⟩:=I1.sq qy;have lt1:l1<s1.heap.objs.size:=by cases b1 with
    | true=>obtain ⟨o,e,_⟩:=cx;exact _l e | false=>obtain ⟨o,e,_⟩:=cx;exact _l e
   have lt2:l2<s1.heap.objs.size:=by cases b2 with
    | true=>obtain ⟨o,e,_⟩:=cy;exact _l e | false=>obtain ⟨o,e,_⟩:=cy;exact _l e
   have D:ZipApart (s1.heap.objs.size+4) (s1.heap.objs.size+2) (s1.heap.objs.size+3) s1.heap.objs.size (s1.heap.objs.size+1) l1 l2:=by
    have e1:∀ k:Nat,l1≠s1.heap.objs.size+k:=fun k=>_x (_r lt1 (_dd _ _));have e2:∀ k:Nat,l2≠s1.heap.objs.size+k:=fun k=>_x (_r lt2 (_dd _ _));have nk:∀ (m j k:Nat),j≠k->m+j≠m+k:=fun m j k h z=>h (Nat.add_left_cancel z);exact ⟨nk _ 2 4 (by decide),nk _ 3 4 (by decide),nk _ 0 4 (by decide),nk _ 1 4 (by decide),nk _ 2 3 (by decide),nk _ 2 0 (by decide),nk _ 2 1 (by decide),nk _ 3 0 (by decide),nk _ 3 1 (by decide),nk _ 0 1 (by decide),e1 4,e1 3,e1 0,e1 1,e2 4,e2 3,e2 0,e2 1⟩
   refine zdj cx cy fun g hz hTI hTO h1 h2 hk=>?_;refine wpAny_pyIter_zip hz ?_;refine ⟨_,_,_,_,H1,rfl,I1.kept (t':=s1.toks) hk,zde D,⟨hz,hTI,⟨_,_,hTO⟩,h1,h2⟩,fun c hc=>?_,q⟩;have hc':s1.heap.objs.size<=c:=by
    have:c=s1.heap.objs.size+4\/c=s1.heap.objs.size+2\/c=s1.heap.objs.size+3\/c=s1.heap.objs.size\/c=s1.heap.objs.size+1:=by simpa using hc
    rcases this with rfl | rfl | rfl | rfl | rfl<;>first | exact _g _ | exact _dd _ _
   exact I1.fpOk hc' (I1.hok.fresh hc')
end L2
namespace Zz
section
variable {P:Program}{w:World}{A:Around}{E:Value->Shared->Prop}{s:Shared}
theorem z7K {b : Bool} {l : Addr} {its : Array Value} {Q : Value → Shared → Prop} (hh : A.handled = none) (h : Sco b s.heap l its) (k : ∀ s2 : Shared, s2 = { s with heap := s.heap.push (itO b l) } → ∀ St : Nat → Heap → Prop, Walks P w A s.heap.objs.size [s.heap.objs.size, l] [s.heap.objs.size] its.size (fun i v => its[i]? = some v) St → St 0 s2.heap → (∀ c ∈ [s.heap.objs.size, l], c < s2.heap.objs.size) → (∀ h' : Heap, (∀ c o, c ∉ [s.heap.objs.size] → s2.heap.get? c = some o → h'.get? c = some o) → ∀ c o, s.heap.get? c = some o → h'.get? c = some o) → Q (.ref s.heap.objs.size) s2) : wpAny (model P w) A (pyIter (.ref l)) Q E s := by
  have lt : l < s.heap.objs.size := by cases b with
    | true => obtain ⟨o, e, _⟩ := h; exact _l e | false => obtain ⟨o, e, _⟩ := h; exact _l e
  have ne : l ≠ s.heap.objs.size := _x lt;have bd : ∀ c ∈ [s.heap.objs.size, l], c < (s.heap.push (itO b l)).objs.size := fun c hc => by
    have : c = s.heap.objs.size ∨ c = l := by simpa using hc
    rw [_al];rcases this with rfl | rfl;· exact _aT _
    · exact _aj lt
  have old : ∀ h' : Heap, (∀ c o, c ∉ [s.heap.objs.size] → (s.heap.push (itO b l)).get? c = some o → h'.get? c = some o) → ∀ c o, s.heap.get? c = some o → h'.get? c = some o := fun h' hk c o e =>
    hk c o (fun z => by have : c = s.heap.objs.size := by simpa using z
                        exact absurd (this ▸ _l e) (_am _)) (_d _ e);refine z3o h ?_;have g : (s.heap.push (itO b l)).get? s.heap.objs.size = some (itO b l) := _h _ (z1A b l);cases b with
  | true => exact k _ rfl _ (Walks.list hh _ l ne its) ⟨z5u (b := true) g, Sco.to (b := true) h fun o e => _d _ e⟩ bd old | false => exact k _ rfl _ (Walks.tuple hh _ l ne its) ⟨z5u (b := false) g, Sco.to (b := false) h fun o e => _d _ e⟩ bd old
end
end Zz
namespace L2
open Zz
def maxL:List Int->Int
 | []=>0 | x::xs=>xs.foldl max x
def minL:List Int->Int
 | []=>0 | x::xs=>xs.foldl min x
theorem vQ:∀ (xs:List Int)(x:Int),x<=xs.foldl max x/\(∀ y∈xs,y<=xs.foldl max x)/\(xs.foldl max x=x\/xs.foldl max x∈xs)
 | [],x=>⟨_cP _,by simp,.inl rfl⟩ | y::ys,x=>by
  obtain ⟨h1,h2,h3⟩:=vQ ys (max x y);refine ⟨by simp only [_a2];omega,fun z hz=>?_,?_⟩
  ·simp only [_a2];rcases _z.mp hz with rfl | hz;·omega
   ·exact h2 z hz
  ·simp only [_a2];rcases h3 with h3 | h3
   ·rw [h3];rcases Int.le_total x y with h | h;·exact .inr (by rw [Int.max_eq_right h];simp)
    ·exact .inl (Int.max_eq_left h)
   ·exact .inr (_y _ h3)
theorem vU:∀ (xs:List Int)(x:Int),xs.foldl min x<=x/\(∀ y∈xs,xs.foldl min x<=y)/\(xs.foldl min x=x\/xs.foldl min x∈xs)
 | [],x=>⟨_cP _,by simp,.inl rfl⟩ | y::ys,x=>by
  obtain ⟨h1,h2,h3⟩:=vU ys (min x y);refine ⟨by simp only [_a2];omega,fun z hz=>?_,?_⟩
  ·simp only [_a2];rcases _z.mp hz with rfl | hz;·omega
   ·exact h2 z hz
  ·simp only [_a2];rcases h3 with h3 | h3
   ·rw [h3];rcases Int.le_total x y with h | h;·exact .inl (Int.min_eq_left h)
    ·exact .inr (by rw [Int.min_eq_right h];simp)
   ·exact .inr (_y _ h3)
theorem maxL_ge{xs:List Int}:∀ y∈xs,y<=maxL xs:=by cases xs with
 | nil=>simp | cons x xs=>intro y hy;rcases _z.mp hy with rfl | hy;exact (vQ xs y).1;exact (vQ xs x).2.1 y hy
theorem maxL_mem{xs:List Int}(h:xs≠[]):maxL xs∈xs:=by cases xs with
 | nil=>exact absurd rfl h | cons x xs=>rcases (vQ xs x).2.2 with e | e;exact (show xs.foldl max x∈x::xs by rw [e];simp);exact _y _ e
theorem minL_le{xs:List Int}:∀ y∈xs,minL xs<=y:=by cases xs with
 | nil=>simp | cons x xs=>intro y hy;rcases _z.mp hy with rfl | hy;exact (vU xs y).1;exact (vU xs x).2.1 y hy
theorem minL_mem{xs:List Int}(h:xs≠[]):minL xs∈xs:=by cases xs with
 | nil=>exact absurd rfl h | cons x xs=>rcases (vU xs x).2.2 with e | e;exact (show xs.foldl min x∈x::xs by rw [e];simp);exact _y _ e
section
variable {X:Cx}
theorem z4T {ns:List Int} {its:List Value} (r:ym (ns.map V.int) its) {i:Nat} {v:Value} (e:its.toArray[i]? = some v):∃ t,v=.int (ns.getD i 0) t/\i<ns.length:=by
 have e':its[i]? = some v:=by simpa using e
 have hl:=r.length;have hi:i<ns.length:=by
  have:=(_b.mp e').1;simp at hl;omega
 obtain ⟨u,hu,ru⟩:=r.get (i:=i) (x:=V.int ns[i]) (by simp [hi]);rw [e'] at hu;cases hu;obtain ⟨t,rfl⟩:=ru;exact ⟨t,by simp [List.getD,hi],hi⟩
theorem getD_in{ns:List Int}{i:Nat}(h:i<ns.length):ns.getD i 0∈ns:=by
 rw [List.getD,_e h];exact _b3 _
theorem zbP (hc:X.calm=true):xK X (.builtin "max") (fun xs H Q=>∃ b p ns,xs=[.ref p]/\Sq b X.K H p (ns.map V.int)/\ns≠[]/\Q (.int (maxL ns)) H):=by
 intro pins s O H xs us Q I r h;obtain ⟨b,p,ns,rfl,hq,hne,q⟩:=h;obtain ⟨u,rfl,ru⟩:=vals1 r;cases ru;obtain ⟨its,rv,co⟩:=I.sq hq;have hl:its.length=ns.length:=by have:=rv.length;simp at this;omega
 have hn:0<ns.length:=_cl.mpr hne;refine call_max_walk (z7K (I.ok.hd hc) co fun s2 e2 St W st bd old=>?_);subst e2;refine ⟨_,_,_,_,_,_,_,rfl,W,st,bd,by simpa [hl] using hn,CmpOf.ints_gt (fun i=>ns.getD i 0) (fun i v e=>let ⟨t,e1,_⟩:=z4T rv e;⟨t,e1⟩),fun v h' tk e hk=>?_⟩;obtain ⟨t,e1,lt⟩:=z4T rv e;obtain ⟨h1,h2⟩:=argBest_gt (fun i=>ns.getD i 0) (its.toArray.size-1);have em:ns.getD (argBest (fun i j=>decide (ns.getD i 0 > ns.getD j 0)) (its.toArray.size-1)) 0=maxL ns:=by
  refine _ch (maxL_ge _ ?_) ?_;·exact getD_in lt
  ·obtain ⟨j,hj,ej⟩:=_D.mp (maxL_mem hne);have:=h2 j (by simp [hl];omega);simp only [List.getD,_e hj,_aH,ej] at this;simpa [List.getD] using this
 rw [e1,em];exact ⟨.int (maxL ns),H,I.kept (t':=tk) (old h' hk),⟨t,rfl⟩,q⟩
theorem z9V (hc:X.calm=true):xK X (.builtin "min") (fun xs H Q=>∃ b p ns,xs=[.ref p]/\Sq b X.K H p (ns.map V.int)/\ns≠[]/\Q (.int (minL ns)) H):=by
 intro pins s O H xs us Q I r h;obtain ⟨b,p,ns,rfl,hq,hne,q⟩:=h;obtain ⟨u,rfl,ru⟩:=vals1 r;cases ru;obtain ⟨its,rv,co⟩:=I.sq hq;have hl:its.length=ns.length:=by have:=rv.length;simp at this;omega
 have hn:0<ns.length:=_cl.mpr hne;refine call_min_walk (z7K (I.ok.hd hc) co fun s2 e2 St W st bd old=>?_);subst e2;refine ⟨_,_,_,_,_,_,_,rfl,W,st,bd,by simpa [hl] using hn,CmpOf.ints_lt (fun i=>ns.getD i 0) (fun i v e=>let ⟨t,e1,_⟩:=z4T rv e;⟨t,e1⟩),fun v h' tk e hk=>?_⟩;obtain ⟨t,e1,lt⟩:=z4T rv e;obtain ⟨h1,h2⟩:=argBest_lt (fun i=>ns.getD i 0) (its.toArray.size-1);have em:ns.getD (argBest (fun i j=>decide (ns.getD i 0<ns.getD j 0)) (its.toArray.size-1)) 0=minL ns:=by
  refine _ch ?_ (minL_le _ ?_)
  ·obtain ⟨j,hj,ej⟩:=_D.mp (minL_mem hne);have:=h2 j (by simp [hl];omega);simp only [List.getD,_e hj,_aH,ej] at this;simpa [List.getD] using this
  ·exact getD_in lt
 rw [e1,em];exact ⟨.int (minL ns),H,I.kept (t':=tk) (old h' hk),⟨t,rfl⟩,q⟩
theorem all_range{bs:List Bool}:(List.range bs.length).all (fun i=>bs.getD i false)=bs.all id:=by
 rw [Bool.eq_iff_iff];simp only [_bg,_aB,id];constructor
 ·intro h x hx;obtain ⟨j,hj,ej⟩:=_D.mp hx;have:=h j hj;simpa [List.getD,hj,ej] using this
 ·intro h i hi;simp only [List.getD,_e hi,_aH];exact h _ (_b3 _)
theorem zaL (hc:X.calm=true):xK X (.builtin "all") (fun xs H Q=>∃ (b:Bool) (p:Addr) (bs:List Bool),xs=[.ref p]/\Sq b X.K H p (bs.map V.bl)/\Q (.bl (bs.all id)) H):=by
 intro pins s O H xs us Q I r h;obtain ⟨b,p,bs,rfl,hq,q⟩:=h;obtain ⟨u,rfl,ru⟩:=vals1 r;cases ru;obtain ⟨its,rv,co⟩:=I.sq hq;have hl:its.length=bs.length:=by have:=rv.length;simp at this;omega
 refine call_all_walk (z7K (I.ok.hd hc) co fun s2 e2 St W st bd old=>?_);subst e2;refine ⟨_,_,_,_,_,_,fun i=>bs.getD i false,rfl,W,st,fun i v s3 Q3 E3 e q3=>?_,fun h' tk hk=>?_⟩
 ·have e':its[i]? = some v:=by simpa using e
  have hi:i<bs.length:=by have:=(_b.mp e').1;omega
  obtain ⟨u,hu,ru⟩:=rv.get (i:=i) (x:=V.bl bs[i]) (by simp [hi]);rw [e'] at hu;cases hu;cases ru;have:bs.getD i false=bs[i]:=by simp [List.getD,hi]
  have q3:Q3 (bs.getD i false) s3:=q3;rw [this] at q3;exact _aq q3
 ·have ez:its.toArray.size=bs.length:=by simp [hl]
  rw [ez,all_range];exact ⟨.bl (bs.all id),H,I.kept (t':=tk) (old h' hk),rfl,q⟩
end
end L2
namespace L2
theorem z7v{X:Cx}:xK X (.builtin "isinstance") (fun xs H Q=>∃ x t T b,xs=[x,.ty T]/\z6E X.K H x t/\W.kitOne X.K t (.type T)=some b/\Q (.bl b) H):=by
 intro pins s O H xs us Q I r h;obtain ⟨x,t,T,b,rfl,ht,hk,q⟩:=h;obtain ⟨u,v,rfl,ru,rv⟩:=vals2 r;cases rv;exact zax I ru ht hk fun tk=>⟨.bl b,H,I.tok _,rfl,q⟩
end L2
namespace Dd
open L2
def tyD:D->Option String
 | .non=>some "NoneType" | .bl _=>some "bool" | .int _=>some "int" | .str _=>some "str" | .tup _=>some "tuple" | .lst _=>some "list" | .loc _=>some "list" | .dct=>some "dict" | _=>none
def isT(T t:String):Bool:=t==T||(T=="int"&&t=="bool")
def gIs(T:String):D->Sto->R D:=fun d s=>match tyD d with | some t=>.ok (.bl (isT T t)) s | none=>.no
theorem z7I{K:W.Frag}{t:String}(h:t∈["NoneType","bool","int","str","tuple","list","dict"])(T:String)(hT:T∈["int","bool","str","tuple","list"]):W.kitOne K (.type t) (.type T)=some (isT T t):=by
 have hh:t="NoneType"\/t="bool"\/t="int"\/t="str"\/t="tuple"\/t="list"\/t="dict":=by simpa using h
 have hh':T="int"\/T="bool"\/T="str"\/T="tuple"\/T="list":=by simpa using hT
 rcases hh with rfl | rfl | rfl | rfl | rfl | rfl | rfl<;>rcases hh' with rfl | rfl | rfl | rfl | rfl<;>kernel_rfl
theorem zed{mg:Gm}{H:Hp}{Y:List Addr}{s:Sto}{d:D}{v:V}{t:String}(r:Rep mg H Y s)(dn:Den mg H Y d v)(e:tyD d=some t):z6E mg.K H v (.type t)/\t∈["NoneType","bool","int","str","tuple","list","dict"]:=by cases d with
 | non=>simp only [Den] at dn;subst dn;cases e;exact ⟨.non,by simp⟩ | bl b=>cases uw dn;cases e;exact ⟨.bl b,by simp⟩ | int b=>cases zQ dn;cases e;exact ⟨.int b,by simp⟩ | str b=>cases uG dn;cases e;exact ⟨.str b,by simp⟩ | tup b=>
  cases e;simp only [Den] at dn;obtain ⟨a,vs,rfl,h1,_⟩:=dn;exact ⟨.tup h1,by simp⟩ | lst b=>
  cases e;simp only [Den] at dn;obtain ⟨a,o,vs,rfl,h1,_⟩:=dn;exact ⟨.frz h1,by simp⟩ | loc l=>
  cases e;simp only [Den] at dn;obtain ⟨a,rfl,h1,vs,h2⟩:=dn;exact ⟨.lst h2,by simp⟩ | dct=>
  cases e;simp only [Den] at dn;obtain ⟨a,rfl,h1⟩:=dn;exact ⟨.dK h1,by simp⟩ | _=>cases e
section
variable {X:Cx}{E:XK}{e a b c tg:Expr}{es:List Expr}{pos:Pos}{CX:CXT}
def eIs(T:String)(f:FE):FE:=fun Z s=>(f Z s).bind fun d s1=>gIs T d s1
theorem z6Z{p p2:Pos}{T:String}{tn:Str}{f:FE}(hT:T∈["int","bool","str","tuple","list"])(hv:bootBuiltins tn=some (.type T))(hg:Gl X "isinstance")(hm:X.mg "isinstance"=none)(hg2:Gl X tn)(hm2:X.mg tn=none)(he:RE X E e f) (hn:tn≠"__name__":=by decide)(hd:(tn==("__debug__":Str))=false:=by decide) (hs:starEach [e,.Name tn p2] X.env=(false,eval e X.env)::starEach [.Name tn p2] X.env:=by rfl)(hpl:(backTo pos (starEach [.Name tn p2] X.env)).any (·.1)=false:=by rfl):RE X E (.Call (.Name "isinstance" p) [e,.Name tn p2] [] pos) (eIs T f):= zE (jl z7v hg hm (by decide +kernel) (yT he (yT (z4p hg2 hm2 hv (show yu (.ty T) (.type T) from rfl) hn hd) ux) hs) (by decide) (by decide) hs hpl) fun O H Q ⟨Y,Z,s,r,en,h⟩=>by
  refine zB (k:=fun Z d s1=>gIs T d s1) r en h _ fun v H1 Y1 s1 d r1 en1 dn stp h1=>?_;unfold gIs at h1;split at h1
  ·rename_i t et;obtain ⟨q1,q2⟩:=zed r1 dn et;exact ⟨v,.type t,T,isT T t,rfl,q1,z7I q2 T hT,okR.here (b:=V.bl (isT T t)) h1 r1 yX⟩
  ·exact h1.elim
def zm4:List D->Sto->R D
 | [.int i],s=>.ok (.int (if i<0 then -i else i)) s | _,_=>.no
def intsOf:List D->Option (List Int)
 | []=>some [] | .int i::r=>(intsOf r).map (i::·) | _=>none
def bools:List D->Option (List Bool)
 | []=>some [] | .bl i::r=>(bools r).map (i::·) | _=>none
theorem kc:∀ {xs:List D}{ns:List Int},intsOf xs=some ns->xs=ns.map D.int
 | [],ns,h=>by simp [intsOf] at h;subst h;rfl | .int i::r,ns,h=>by
  simp only [intsOf,_v] at h;obtain ⟨ms,h1,rfl⟩:=h;rw [kc h1];rfl
theorem uz(ns:List Int):intsOf (ns.map D.int)=some ns:=by induction ns with
 | nil=>rfl | cons n ns ih=>simp [intsOf,ih]
theorem z1s:∀ {xs:List D}{ns:List Bool},bools xs=some ns->xs=ns.map D.bl
 | [],ns,h=>by simp [bools] at h;subst h;rfl | .bl i::r,ns,h=>by
  simp only [bools,_v] at h;obtain ⟨ms,h1,rfl⟩:=h;rw [z1s h1];rfl
theorem z5l(ns:List Bool):bools (ns.map D.bl)=some ns:=by induction ns with
 | nil=>rfl | cons n ns ih=>simp [bools,ih]
theorem ke{mg:Gm}{H:Hp}{Y:List Addr}:∀ {ns:List Int}{vs:List V},zq mg H Y (ns.map D.int) vs->vs=ns.map V.int
 | [],vs,h=>by simpa [zq] using h | n::ns,vs,h=>by
  simp only [_s,zq] at h;obtain ⟨v,r,rfl,h1,h2⟩:=h;cases zQ h1;rw [ke h2];rfl
theorem z1p{mg:Gm}{H:Hp}{Y:List Addr}:∀ {ns:List Bool}{vs:List V},zq mg H Y (ns.map D.bl) vs->vs=ns.map V.bl
 | [],vs,h=>by simpa [zq] using h | n::ns,vs,h=>by
  simp only [_s,zq] at h;obtain ⟨v,r,rfl,h1,h2⟩:=h;cases uw h1;rw [z1p h2];rfl
def vE:List D->Sto->R D
 | [d],s=>match (zW s d).bind intsOf with | some (n::ns)=>.ok (.int (maxL (n::ns))) s | _=>.no
 | _,_=>.no
def z3X:List D->Sto->R D
 | [d],s=>match (zW s d).bind intsOf with | some (n::ns)=>.ok (.int (minL (n::ns))) s | _=>.no
 | _,_=>.no
def zcM:List D->Sto->R D
 | [d],s=>match (zW s d).bind bools with | some ns=>.ok (.bl (ns.all id)) s | none=>.no
 | _,_=>.no
theorem zaD{K:W.Frag}{H:Hp}{a:Addr}{vs:List V}(h:SqL K H a vs\/SqT K H a vs):∃ b,Sq b K H a vs:=h.elim (fun h=>⟨true,h⟩) fun h=>⟨false,h⟩
theorem z1Y(hc:X.calm=true):∃ r,xK X (.builtin "max") r/\z1j X E r vE:=⟨_,zbP hc,fun H Y s ds vs Q r hd h=>by
 unfold vE at h;split at h
 ·rename_i d;split at h
  ·rename_i n ns e;obtain ⟨xs,e1,e2⟩:=_ac.mp e;have:=kc e2;subst this;obtain ⟨v,rfl,dn⟩:=z1P hd;obtain ⟨a,ws,rfl,q1,q2⟩:=je (K:=X.K) r e1 dn;cases ke q2;obtain ⟨b,q⟩:=zaD q1;exact ⟨b,a,n::ns,rfl,q,by simp,h.here r yn⟩
  ·exact h.elim
 ·exact h.elim⟩
theorem zdW(hc:X.calm=true):∃ r,xK X (.builtin "min") r/\z1j X E r z3X:=⟨_,z9V hc,fun H Y s ds vs Q r hd h=>by
 unfold z3X at h;split at h
 ·rename_i d;split at h
  ·rename_i n ns e;obtain ⟨xs,e1,e2⟩:=_ac.mp e;have:=kc e2;subst this;obtain ⟨v,rfl,dn⟩:=z1P hd;obtain ⟨a,ws,rfl,q1,q2⟩:=je (K:=X.K) r e1 dn;cases ke q2;obtain ⟨b,q⟩:=zaD q1;exact ⟨b,a,n::ns,rfl,q,by simp,h.here r yn⟩
  ·exact h.elim
 ·exact h.elim⟩
theorem zhU(hc:X.calm=true):∃ r,xK X (.builtin "all") r/\z1j X E r zcM:=⟨_,zaL hc,fun H Y s ds vs Q r hd h=>by
 unfold zcM at h;split at h
 ·rename_i d;split at h
  ·rename_i ns e;obtain ⟨xs,e1,e2⟩:=_ac.mp e;have:=z1s e2;subst this;obtain ⟨v,rfl,dn⟩:=z1P hd;obtain ⟨a,ws,rfl,q1,q2⟩:=je (K:=X.K) r e1 dn;cases z1p q2;obtain ⟨b,q⟩:=zaD q1;exact ⟨b,a,ns,rfl,q,h.here r yX⟩
  ·exact h.elim
 ·exact h.elim⟩
def z50:List D->List D->List D
 | x::xs,y::ys=>.tup [x,y]::z50 xs ys | _,_=>[]
theorem z2m:∀ (xs ys:List D),(z50 xs ys).length=min xs.length ys.length
 | [],ys=>by simp [z50] | x::xs,[]=>by simp [z50] | x::xs,y::ys=>by simp only [z50,_i,z2m xs ys];omega
theorem z9B:∀ {xs ys:List D}{i:Nat}{d:D},(z50 xs ys)[i]? = some d->∃ x y,xs[i]? = some x/\ys[i]? = some y/\d=.tup [x,y]
 | [],ys,i,d,h=>by simp [z50] at h | x::xs,[],i,d,h=>by simp [z50] at h | x::xs,y::ys,0,d,h=>by simp [z50] at h;exact ⟨x,y,by simp,by simp,h.symm⟩ | x::xs,y::ys,i+1,d,h=>by
  simp only [z50,_m] at h;obtain ⟨a,b,h1,h2,h3⟩:=z9B h;exact ⟨a,b,by simpa using h1,by simpa using h2,h3⟩
def z95(s:Sto):D->Option (List D×List (Nat×List D))
 | .tup xs=>some (xs,[]) | .lst xs=>some (xs,[]) | .loc l=>(s[l]?).map fun xs=>(xs,[(l,xs)]) | _=>none
theorem z7i{mg:Gm}{H:Hp}{Y:List Addr}{s:Sto}{d:D}{xs:List D}{g:List (Nat×List D)}{v:V}(r:Rep mg H Y s)(h:z95 s d=some (xs,g))(dn:Den mg H Y d v):okG g [] s/\∃ (b:Bool)(a:Addr),v=.ref a/\ ∀ H2 Y2 s2,xr mg H Y H2 Y2 s2->okG g [] s2->∃ ws,Sq b mg.K H2 a ws/\zq mg H2 Y2 xs ws:=by cases d with
 | tup ys=>
  cases h;obtain ⟨a,vs,rfl,q1,q2⟩:=qS (K:=mg.K) dn;refine ⟨(by intro p hp;simp at hp),false,a,rfl,fun H2 Y2 s2 stp _=>?_⟩;obtain ⟨a',ws,e,q3,q4⟩:=qS (K:=mg.K) (dn.mono stp);cases e;exact ⟨ws,q3,q4⟩ | lst ys=>
  cases h;obtain ⟨a,vs,rfl,q1,q2⟩:=zJ (d:=.lst xs) r rfl dn;refine ⟨(by intro p hp;simp at hp),true,a,rfl,fun H2 Y2 s2 stp _=>?_⟩;obtain ⟨a',ws,e,q3,q4⟩:=zJ (d:=.lst xs) stp.rep rfl (dn.mono stp);cases e;exact ⟨ws,.inl q3,q4⟩ | loc l=>
  simp only [z95,_v] at h;obtain ⟨ys,ey,e2⟩:=h;cases e2;obtain ⟨a,vs,rfl,q1,q2⟩:=zJ (d:=.loc l) r ey dn;have og:okG [(l,xs)] [] s:=fun p hp=>by
   have:p=(l,xs):=by simpa using hp
   subst this;exact ey
  refine ⟨og,true,a,rfl,fun H2 Y2 s2 stp hg=>?_⟩;obtain ⟨a',ws,e,q3,q4⟩:=zJ (d:=.loc l) stp.rep (hg (l,xs) (by simp)) (dn.mono stp);cases e;exact ⟨ws,.inl q3,q4⟩ | _=>cases h
def zgl(f:FA):FI:=fun Z s=>(f Z s).bind fun ds s1=>match ds with
 | [x,y]=>match z95 s1 x,z95 s1 y with
  | some p,some q=>.ok (z50 p.1 q.1,p.2++q.2) s1 | _,_=>.no
 | _=>.no
theorem zgY{p tp:Pos}{elts:List Expr}{kt:Nat}{f:FA}(hg:Gl X "zip")(hm:X.mg "zip"=none)(ha:RA X E [a,b] f)(hs:starEach [a,b] X.env=(false,eval a X.env)::starEach [b] X.env:=by rfl)(hpl:(backTo pos (starEach [b] X.env)).any (·.1)=false:=by rfl): RI X E (.Tuple elts kt tp) (.Call (.Name "zip" p) [a,b] [] pos) (zgl f):= z3f (ziP hg hm ha hs hpl) fun O H Q ⟨Y,Z,s,r,en,h⟩=>by
  unfold zgl at h;refine ⟨Y,Z,s,r,en,(okR.bind (Dn:=zq (gm X)) h).imp fun vs H1 ⟨Y1,s1,ds,stp,dn,h1⟩=>?_⟩;split at h1
  ·rename_i x y;split at h1
   ·rename_i p q ex ey;obtain ⟨xs,gx⟩:=p;obtain ⟨ys,gy⟩:=q;obtain ⟨v,v',rfl,d1,d2⟩:=z6F dn;obtain ⟨og1,b1,a1,rfl,k1⟩:=z7i stp.rep ex d1;obtain ⟨og2,b2,a2,rfl,k2⟩:=z7i stp.rep ey d2;obtain ⟨w1,q1,_⟩:=k1 H1 Y1 s1 (.refl stp.rep) og1;obtain ⟨w2,q2,_⟩:=k2 H1 Y1 s1 (.refl stp.rep) og2;refine ⟨a1,a2,b1,b2,rfl,⟨w1,q1⟩,⟨w2,q2⟩,h1.here stp.rep fun H2 Y2 s2 stp2 og i=>?_⟩;have h3:okG gx [] s2:=fun p hp=>og p (_ad _ hp);have h4:okG gy [] s2:=fun p hp=>og p (_p _ hp);refine ⟨fun d hd=>?_,fun hl=>?_⟩
    ·obtain ⟨x,y,e1,e2,rfl⟩:=z9B hd;obtain ⟨w1,q1,n1⟩:=k1 H2 Y2 s2 stp2 h3;obtain ⟨w2,q2,n2⟩:=k2 H2 Y2 s2 stp2 h4;obtain ⟨u1,g1,m1⟩:=n1.get e1;obtain ⟨u2,g2,m2⟩:=n2.get e2;refine ⟨⟨w1,w2,u1,u2,q1,q2,g1,g2⟩,fun z H' ⟨T,p,q,hT,ez,eH,hp,hq⟩=>?_⟩;subst ez eH;have e3:=hp w1 q1;have e4:=hq w2 q2;rw [g1] at e3;rw [g2] at e4;cases e3;cases e4;have st3:=xr.lay (o:=.tup [u1,u2]) stp2.rep hT (by intro _ z;cases z);refine ⟨Y2,st3,?_⟩;simp only [Den];exact ⟨T,[u1,u2],rfl,zC,(zq.cons m1 (zq.one m2)).mono st3⟩
    ·obtain ⟨w1,q1,n1⟩:=k1 H2 Y2 s2 stp2 h3;obtain ⟨w2,q2,n2⟩:=k2 H2 Y2 s2 stp2 h4;refine ⟨w1,w2,q1,q2,?_⟩;rw [n1.length,n2.length];simp only [z2m] at hl;omega
   ·exact h1.elim
  ·exact h1.elim
end
def zU(mp:List (Option Nat))(Z:Ev):Ev:=mp.map fun o=>match o with | some j=>(Z[j]?).getD none | none=>none
theorem vG.inner{mg:Gm}{H:Hp}{Y:List Addr}{Z:Ev}{O:L2.St}{mp:List (Option Nat)}(en:vG mg H Y Z O):vG mg H Y (zU mp Z) (inner mp O):=by
 refine ⟨by simp [zU,L2.inner],fun i d h=>?_⟩;simp only [zU,_P,_v] at h;obtain ⟨o,h1,h2⟩:=h;cases o with
 | none=>cases h2 | some j=>
  simp only at h2;have h3:Z[j]? = some (some d):=by cases e:Z[j]? with
   | none=>rw [e] at h2;cases h2 | some x=>rw [e] at h2;simp at h2;rw [h2]
  obtain ⟨v,h4,h5⟩:=en.at_ j d h3;exact ⟨v,by simp [L2.inner,h1,h4],h5⟩
open Classical in
def wm(g:List (Nat×List D))(all:List D)(body:D->Sto->R (Option D)):List D->List D->Sto->R (List D)
 | [],acc,s=>if okG g all s then .ok acc s else .no | x::xs,acc,s=>if okG g all s then (body x s).bind fun o s1=>match o with
   | some d=>if acc.length<cap then wm g all body xs (acc++[d]) s1 else .no | none=>wm g all body xs acc s1 else .no
def z6H(fi:FI)(mp:List (Option Nat))(fg:FG)(ft:FT)(fe:FE):FA:=fun Z s=>(fi Z s).bind fun it s1=>wm it.2 it.1 (fun d s=>(fg d (zU mp Z) s).bind fun Z' s'=>(ft Z' s').bind fun b s2=>if b=true then (fe Z' s2).bind fun d s3=>.ok (some d) s3 else .ok none s2) it.1 [] s1
def z4h(mg:Gm)(E:XK)(mp:List (Option Nat))(g:TG)(fg:FG):Prop:=∀ (O:L2.St) H Y Z s x d (Q:L2.St->Hp->Prop),Rep mg H Y s->vG mg H Y (zU mp Z) (inner mp O)->Den mg H Y d x->okR mg E H Y (vG mg) (fg d (zU mp Z) s) Q-> g x (inner mp O) H (fun O2 H2=>(O2.length=(inner mp O).length/\∀ (i:Nat) v,(inner mp O)[i]? = some (some v)->O2[i]? = some (some v))/\Q O2 H2)
theorem z27{mp:List (Option Nat)}{i:Nat}(h:mp[i]? = some none)(O:L2.St):(inner mp O)[i]? = some none:=by simp [L2.inner,h]
theorem z3P{O:L2.St}{i:Nat}{v:V}(h:O[i]? = some none):(O.set i (some v)).length=O.length/\∀ (j:Nat) u,O[j]? = some (some u)->(O.set i (some v))[j]? = some (some u):=by
 refine ⟨by simp,fun j u e=>?_⟩;have:i≠j:=fun z=>by subst z;rw [h] at e;cases e
 rw [_C this];exact e
section
variable {X:Cx}{E:XK}{e a b c tg iter elt:Expr}{es:List Expr}{pos:Pos}{CX:CXT}{mp:List (Option Nat)}
theorem xa(i:Nat)(h:mp[i]? = some none):z4h (gm X) E mp (z0U i) (wo i):=fun O H Y Z s x d Q r en dn ok=>by
 refine ⟨z3P (z27 h O),?_⟩;exact okR.here (b:=(inner mp O).set i (some x)) ok r (en.set dn i)
theorem z4S{fi:FI}{g:TG}{fg:FG}{ft:FT}{fe:FE}{O:L2.St}{H:Hp}{Q:VK}{Y:List Addr}{Z:Ev}{s:Sto}{β:Type}{kR:List D->Sto->R β}{β2:Type}{Dn:Hp->List Addr->β->β2->Prop}{Q2:β2->Hp->Prop}(hg:z4h (gm X) E mp g fg)(r:Rep (gm X) H Y s)(en:vG (gm X) H Y Z O) (h:okR (gm X) E H Y Dn ((z6H fi mp fg ft fe Z s).bind kR) Q2) (fin:∀ H1 Y1 s1 xs vs,Rep (gm X) H1 Y1 s1->vG (gm X) H1 Y1 Z O->zq (gm X) H1 Y1 xs vs->okR (gm X) E H1 Y1 Dn (kR xs s1) Q2->xs.length<=cap->∀ p,H1 p=none->Q (.ref p) (upd H1 p (.lst vs))): zdF (tI (gm X) E fi) mp g (tT (gm X) E ft) (tE (gm X) E fe) O H Q:=by
 unfold z6H at h;have assoc:∀ {α γ δ:Type}(x:R α)(f:α->Sto->R γ)(k:γ->Sto->R δ),(x.bind f).bind k=x.bind fun a s=>(f a s).bind k:=fun x f k=>by cases x<;>rfl
 rw [assoc] at h;refine ⟨Y,Z,s,r,en,(okR.bind (Dn:=zc5 (gm X)) h).imp fun J H1 ⟨Y1,s1,it,stp,ok,h1⟩=>?_⟩;obtain ⟨items,gd⟩:=it;simp only at h1;refine ⟨fun i m ys H=>∃ Y s acc,xr (gm X) H1 Y1 H Y s/\zq (gm X) H Y acc ys/\acc.length<=cap/\m=items.length-i/\i<=items.length/\ okR (gm X) E H Y Dn ((wm gd items (fun d s=>(fg d (zU mp Z) s).bind fun Z' s'=>(ft Z' s').bind fun b s2=>if b=true then (fe Z' s2).bind fun d s3=>.ok (some d) s3 else .ok none s2) (items.drop i) acc s).bind kR) Q2, ⟨items.length,Y1,s1,[],.refl stp.rep,zq.nil,_ae _,by simp,_ae _,by simpa using h1⟩,?_⟩;rintro i m ys H2 ⟨Y2,s2,acc,stp2,dn2,hcap,rfl,hil,h2⟩;have en2:vG (gm X) H2 Y2 Z O:=(en.mono stp).mono stp2;by_cases hlt:i<items.length
 ·right;rw [_aF hlt,wm] at h2;split at h2
  ·rename_i hG;obtain ⟨go,yl⟩:=((ok H2 Y2 s2 stp2 hG i).1 items[i] (_e hlt));refine ⟨go,fun x H' y=>?_⟩;obtain ⟨Y3,stp3,dn3⟩:=yl x H' y;have h3:=okR.rebase h2 stp3;rw [assoc,assoc] at h3;have h4:=okR.bind (Dn:=vG (gm X)) h3;refine hg O H' Y3 Z s2 x items[i] _ stp3.rep ((en2.mono stp3).inner) dn3 (h4.imp fun O4 H4 ⟨Y4,s4,Z4,stp4,en4,h5⟩=>?_);rw [assoc] at h5;refine ⟨Y4,Z4,s4,stp4.rep,en4,(okR.bind (Dn:=bD) h5).imp fun bb H5 ⟨Y5,s5,b',stp5,eb,h6⟩=>?_⟩;cases (show b'=bb from eb);have all5:xr (gm X) H1 Y1 H5 Y5 s5:=((stp2.trans stp3).trans stp4).trans stp5;cases bb with
   | true=>
    rw [_f rfl] at h6 ⊢;rw [assoc] at h6;refine ⟨Y5,Z4,s5,stp5.rep,en4.mono stp5,(okR.bind (Dn:=Den (gm X)) h6).imp fun y H6 ⟨Y6,s6,d6,stp6,dn6,h7⟩=>?_⟩;simp only [Rb] at h7;split at h7
    ·rename_i hc;have all6:=all5.trans stp6;have dny:zq (gm X) H6 Y6 acc ys:=(((dn2.mono stp3).mono stp4).mono stp5).mono stp6;refine ⟨by rw [dn2.length];exact uj hcap,items.length-(i+1),by omega,Y6,s6,acc++[d6],all6,dny.append (zq.one dn6),by simp;omega,rfl,hlt,h7⟩
    ·exact h7.elim | false=>
    rw [_q (by decide)] at h6 ⊢;simp only [Rb] at h6;exact ⟨items.length-(i+1),by omega,Y5,s5,acc,all5,((dn2.mono stp3).mono stp4).mono stp5,hcap,rfl,hlt,h6⟩
  ·exact h2.elim
 ·left;have e:i=items.length:=by omega
  subst e;rw [_b1,wm] at h2;split at h2
  ·rename_i hG;simp only [Rb] at h2;exact ⟨(ok H2 Y2 s2 stp2 hG _).2 (_g _),by rw [dn2.length];exact uj hcap,fin H2 Y2 s2 acc ys stp2.rep en2 dn2 h2 hcap⟩
  ·exact h2.elim
def zD(fi:FI)(mp:List (Option Nat))(fg:FG)(ft:FT)(fe:FE):FE:=fun Z s=>(z6H fi mp fg ft fe Z s).bind fun xs s1=>.ok (.lst xs) s1
def z1U(fi:FI)(mp:List (Option Nat))(fg:FG)(ft:FT)(fe:FE):FE:=fun Z s=>(z6H fi mp fg ft fe Z s).bind fun xs s1=>if D.flat.flats xs=true then .ok (.loc s1.length) (s1++[xs]) else .no
def qj:FT:=fun _ s=>.ok true s
theorem uO{Yy:Cx}:z7X Yy [] (tT (gm Yy) E qj):=fun pins s O H Q I ⟨Y,Z,st,r,en,h⟩=>zdp pins s O H Q I (h.here (b:=true) r rfl)
theorem ww{Yy:Cx}{f:FT}(h:RT Yy E c f):z7X Yy [c] (tT (gm Yy) E f):=zdG h
section
variable {scope:Scope}{ifs:List Expr}{fi:FI}{fg:FG}{ft:FT}{fe:FE}{g:TG}{spos py:Pos}
theorem zgW(N':List Str)(mp:List (Option Nat))(hc:X.calm=true)(hi:RI X E tg iter fi)(hg:∀ ex s H,PG (zk X N' scope ex s H) tg g)(hgt:z4h (gm X) E mp g fg)(ht:∀ ex s H,z7X (zk X N' scope ex s H) ifs (tT (gm X) E ft))(he:∀ ex s H,RE (zk X N' scope ex s H) E elt fe) (hkd:scope.kind=.function)(hnm:∀ y∈scope.names,scope.names.lookup y.1=some y.2) (hfr:∀ y∈scope.names,y.2=.free->X.env.kindOf y.1=some .cell\/X.env.kindOf y.1=some .free)(hmp:z1F X.N scope.names N' mp=true) (hs:∀ x,foldedSetIterable iter X.env x=pure x:=by intro _;rfl):RE X E (.ListComp elt [⟨tg,iter,ifs,0⟩] scope pos) (zD fi mp fg ft fe):= zE (zfF (te:=tE (gm X) E fe) N' mp hc hi hg ht (fun ex s H=>he ex s H) hkd hnm hfr hmp hs).freeze fun O H Q ⟨Y,Z,s,r,en,h⟩=> z4S hgt r en h fun H1 Y1 s1 xs vs r1 en1 dn h1 hcap=>kb r1 h1 dn
theorem z8Q {i:Nat} {y:Str} (N':List Str) (mp:List (Option Nat)) (hN:X.N.Nodup) (hc:X.calm=true) (hi:RI X E tg iter fi) (hg:∀ ex s H,PG (zk X N' scope ex s H) tg g) (hgt:z4h (gm X) E mp g fg) (ht:∀ ex s H,z7X (zk X N' scope ex s H) ifs (tT (gm X) E ft)) (he:∀ ex s H,RE (zk X N' scope ex s H) E elt fe) (hkd:scope.kind=.function) (hnm:∀ y∈scope.names,scope.names.lookup y.1=some y.2) (hfr:∀ y∈scope.names,y.2=.free->X.env.kindOf y.1=some .cell\/X.env.kindOf y.1=some .free) (hmp:z1F X.N scope.names N' mp=true) (hy:X.N[i]? = some y:=by rfl) (hyl:Loc X.env.scope y:=by first | exact Or.inl rfl | exact Or.inr rfl) (hs:∀ x,foldedSetIterable iter X.env x=pure x:=by intro _;rfl) (hsw:swapsWith (.ListComp elt [⟨tg,iter,ifs,0⟩] scope pos) (some (.Name y py)) spos.line X.env=pure true:=by rfl) (hf:X.fn y=true\/X.env.scope.names.lookup y=some .local:=by first | exact .inl rfl | exact .inr rfl | assumption): RS X E (.Assign [.Name y py] (.ListComp elt [⟨tg,iter,ifs,0⟩] scope pos) spos) (yt i (zD fi mp fg ft fe)):= vK (z6U (te:=tE (gm X) E fe) N' mp hN hy hyl hc hi hg ht (fun ex s H=>he ex s H) hkd hnm hfr hmp hs hsw hf) fun D O H ⟨Y,Z,s,r,en,h⟩=>by
  have assoc:∀ {α γ δ:Type} (x:R α) (f:α->Sto->R γ) (k:γ->Sto->R δ),(x.bind f).bind k=x.bind fun a s=>(f a s).bind k:=fun x f k=>by cases x<;>rfl
  unfold yt zD at h;rw [assoc] at h;refine z4S hgt r en h fun H1 Y1 s1 xs vs r1 en1 dn h1 hcap p hp=>?_;refine kb (E:=E) (mg:=gm X) (xs:=xs) r1 (fun v H2 Y2 stp dn2=>?_) dn p hp;exact h1 (.nx (O.set i (some v))) H2 Y2 stp ((en1.mono stp).set dn2 i)
theorem z9e{i:Nat}{y:Str}(N':List Str)(mp:List (Option Nat))(hN:X.N.Nodup)(hc:X.calm=true)(hi:RI X E tg iter fi)(hg:∀ ex s H,PG (zk X N' scope ex s H) tg g)(hgt:z4h (gm X) E mp g fg)(ht:∀ ex s H,z7X (zk X N' scope ex s H) ifs (tT (gm X) E ft))(he:∀ ex s H,RE (zk X N' scope ex s H) E elt fe) (hkd:scope.kind=.function)(hnm:∀ y∈scope.names,scope.names.lookup y.1=some y.2) (hfr:∀ y∈scope.names,y.2=.free->X.env.kindOf y.1=some .cell\/X.env.kindOf y.1=some .free)(hmp:z1F X.N scope.names N' mp=true)(hy:X.N[i]? = some y:=by rfl)(hyl:Loc X.env.scope y:=by first | exact Or.inl rfl | exact Or.inr rfl) (hs:∀ x,foldedSetIterable iter X.env x=pure x:=by intro _;rfl) (hsw:swapsWith (.ListComp elt [⟨tg,iter,ifs,0⟩] scope pos) (some (.Name y py)) spos.line X.env=pure true:=by rfl) (hf:X.fn y=true\/X.env.scope.names.lookup y=some .local:=by first | exact .inl rfl | exact .inr rfl | assumption): RS X E (.Assign [.Name y py] (.ListComp elt [⟨tg,iter,ifs,0⟩] scope pos) spos) (yt i (z1U fi mp fg ft fe)):= vK (z9b (te:=tE (gm X) E fe) N' mp hN hy hyl hc hi hg ht (fun ex s H=>he ex s H) hkd hnm hfr hmp hs hsw hf) fun D O H ⟨Y,Z,s,r,en,h⟩=>by
  have assoc:∀ {α γ δ:Type}(x:R α)(f:α->Sto->R γ)(k:γ->Sto->R δ),(x.bind f).bind k=x.bind fun a s=>(f a s).bind k:=fun x f k=>by cases x<;>rfl
  unfold yt z1U at h;rw [assoc] at h;refine z4S hgt r en h fun H1 Y1 s1 xs vs r1 en1 dn h1 hcap p hp=>?_;split at h1
  ·rename_i hf;have stp:=xr.layL (p:=p) r1 hp dn hf;refine h1 (.nx (O.set i (some (.ref p)))) _ _ stp ((en1.mono stp).set ?_ i);simp only [Den];exact ⟨p,rfl,by rw [<- r1.len];simp,vs,zC⟩
  ·exact h1.elim
end
end
section
variable {X:Cx}{E:XK}{e a b c tg iter elt:Expr}{es:List Expr}{pos:Pos}{CX:CXT}{mp:List (Option Nat)}
def zez(K:W.Frag)(i j:Nat):TG:=zl3 K 2 (zfK (z0U i) (zfK (z0U j) zkR))
theorem vP(i j:Nat){x y:Str}{px py:Pos}{kt:Nat}(hc:X.calm=true)(hN:X.N.Nodup)(hi:X.N[i]? = some x:=by rfl)(hj:X.N[j]? = some y:=by rfl)(hx:Loc X.env.scope x:=by first | exact Or.inl rfl | exact Or.inr rfl)(hy:Loc X.env.scope y:=by first | exact Or.inl rfl | exact Or.inr rfl) (hf:X.fn x=true\/X.env.scope.names.lookup x=some .local:=by first | exact .inl rfl | exact .inr rfl | assumption)(hf':X.fn y=true\/X.env.scope.names.lookup y=some .local:=by first | exact .inl rfl | exact .inr rfl | assumption): PG X (.Tuple [.Name x px,.Name y py] kt pos) (zez X.K i j):=zen hc (z1C (yr hN hi hx hf) (z1C (yr hN hj hy hf') zbr))
theorem vI(i j:Nat)(hij:i≠j)(h:mp[i]? = some none)(h':mp[j]? = some none):z4h (gm X) E mp (zez X.K i j) (xW i j):=fun O H Y Z s x d Q r en dn ok=>by
 unfold xW at ok;split at ok
 ·rename_i d1 d2;obtain ⟨p,vs,rfl,q1,q2⟩:=qS (K:=X.K) dn;obtain ⟨v1,v2,rfl,e1,e2⟩:=z6F q2;have k1:=z3P (v:=v1) (z27 h O);have own2:((inner mp O).set i (some v1))[j]? = some none:=by rw [_C hij];exact z27 h' O
  have k2:=z3P (v:=v2) own2;exact ⟨p,[v1,v2],rfl,q1,rfl,v1,[v2],rfl,v2,[],rfl,rfl,⟨k2.1.trans k1.1,fun l u e=>k2.2 l u (k1.2 l u e)⟩,okR.here ok r ((en.set e1 i).set e2 j)⟩
 ·exact ok.elim
end
def zt(N:List Str)(ds:List D):Ev:=ds.map some++List.replicate (N.length-ds.length) none
theorem ji{mg:Gm}{H:Hp}{Y:List Addr}{N:List Str}:∀ {ds:List D}{vs:List V},zq mg H Y ds vs->vG mg H Y (zt N ds) (L2.start N vs):=fun {ds vs} h=>by
 have hl:=h.length;refine ⟨by simp [zt,L2.start,hl],fun i d e=>?_⟩;unfold zt at e;have hi:i<ds.length:=by
  by_cases hi:i<ds.length;·exact hi
  ·rw [_T (by simpa using hi),_be] at e;split at e<;>cases e
 rw [_o (by simpa using hi),_P] at e;have e':ds[i]? = some d:=by cases q:ds[i]? with
  | none=>rw [q] at e;cases e | some x=>rw [q] at e;simp at e;rw [e]
 obtain ⟨v,h1,h2⟩:=h.get e';refine ⟨v,?_,h2⟩;unfold L2.start;rw [_o (by simpa [hl] using hi),_P,h1];rfl
def Mof(N:List Str)(n:Nat)(fs:FS):Mir:=fun ds s=>if ds.length=n then (match fs (zt N ds) s with
 | .ok (.rt d) s'=>.ok d s' | .ok (.nx _) s'=>.ok .non s' | _=>.no) else .no
section
variable {P:Program}{w:World}{K:W.Frag}{mg:Str->Option Value}{base:Heap}
theorem Has.mono{CX:CXT}{x:Str}{n m:Nat}{M:Mir}(h:Has P w K mg base CX x n M)(hl:n<=m):Has P w K mg base CX x m M:=by
 obtain ⟨f,fd,ps,F,r⟩:=h;exact ⟨f,fd,ps,F.mono hl,r⟩
theorem ya{x qual:Str}{st:Stmt}{f:Addr}{fd:FuncData}{N ps:List Str}{k n:Nat}{fs:FS}(F:Fun K x qual st f fd)(hm:mg x=some (.ref f))(hb:Binds K fd ps [])(S:zr N ps (ze st))(hn:ps.length=n) (body:∀ (cdv:Value)(A:Around)(outer:List Env)(s:Shared)(H:Hp)(E:XK),z09 k (A.deeper (envOfC qual (ze st) s.heap.objs.size f cdv))->(z25 CX0 P w K mg base N qual (ze st) f cdv A outer s H E).nox.calm=true-> RSs (z25 CX0 P w K mg base N qual (ze st) f cdv A outer s H E).nox E0 (wV st) fs):Has P w K mg base CX0 x (k+1) (Mof N n fs):=by
 subst hn;refine ⟨f,fd,ps,F.ok S (fun vs H Q E h=>?_) (fun cdv A outer s H vs Q E hr h=>?_),hb,F.kp,hm⟩
 ·obtain ⟨Y,s,ds,_,dn,h⟩:=h;unfold Mof at h;split at h;·rename_i e;rw [dn.length];exact e
  ·exact h.elim
 ·obtain ⟨Y,st0,ds,r,dn,h⟩:=h;refine ⟨_,body cdv A outer s H E hr (by show A.handled.isNone=true;rw [show A.handled=none from hr.hd];rfl),Y,zt N ds,st0,r,ji dn,?_⟩;unfold Mof at h;split at h
  ·split at h
   ·rename_i d s' e;rw [e];intro fv H' Y' stp fd;cases fv with
    | rt v=>exact h v H' Y' stp fd | _=>exact (show False from fd).elim
   ·rename_i Z s' e;rw [e];intro fv H' Y' stp fd;cases fv with
    | nx v=>exact h .non H' Y' stp (by simp [Den]) | _=>exact (show False from fd).elim
   ·exact h.elim
  ·exact h.elim
theorem ziD{x qual:Str}{st:Stmt}{f:Addr}{fd:FuncData}{ps:List Str}(F:Fun K x qual st f fd)(hm:mg x=some (.ref f))(hb:Binds K fd ps []):Has P w K mg base CX0 x 0 (fun _ _=>.no):= ⟨f,fd,ps,⟨fun vs H Q E h=>by obtain ⟨_,_,_,_,_,h⟩:=h;exact h.elim,fun A outer s H args us vs Q E _ _ _ _ h=>by obtain ⟨_,_,_,_,_,h⟩:=h;exact h.elim⟩,hb,F.kp,hm⟩
end
def zfV(K:W.Frag):Sp:=fun vs H Q _=>∃ (a:Addr)(ns:List Int),vs=[.ref a]/\zkv H/\SqL K H a (ns.map V.int)/\ns.length<=63/\∀ H',Q (.bl true) H'
theorem z0N{mg:Gm}{H:Hp}{Y:List Addr}:∀ (ns:List Int),zq mg H Y (ns.map D.int) (ns.map V.int)
 | []=>zq.nil | n::ns=>zq.cons yn (z0N ns)
theorem ziR{P:Program}{w:World}{K:W.Frag}{mg:Str->Option Value}{base:Heap}{x:Str}{n:Nat}{M:Mir}{f:Addr}{fd:FuncData}{ps:List Str}(F:z4g P w K mg base CX0 n f fd ps (zdV ⟨mg,K⟩ M)) (h:∀ ns:List Int,ns.length<=63->∃ s',M [.scr (ns.map D.int)] []=.ok (.bl true) s'):z4g P w K mg base CX0 n f fd ps (zfV K):= F.imp fun vs H Q E ⟨a,ns,e,ho,hq,hl,q⟩=>by
  subst e;obtain ⟨s',hs⟩:=h ns hl;refine ⟨[],[],[.scr (ns.map D.int)],⟨rfl,List.nodup_nil,fun l xs z=>by simp at z,fun xs z=>by simp at z⟩,zq.one ?_,?_⟩
  ·simp only [Den];refine ⟨a,ns.map V.int,rfl,?_,z0N ns⟩;rcases hq with (z | z) | z
   ·rcases ho a with y | ⟨o,xs,y⟩;·rw [y] at z;cases z
    ·rw [y] at z;cases z
   ·exact .inl z
   ·exact .inr z
  ·rw [hs];intro v H' Y' stp dn;cases uw dn;exact q H'
section
variable {X:Cx}{E:XK}{e a b c tg iter elt:Expr}{es:List Expr}{pos:Pos}{CX:CXT}
def z2K(f:FE):FE:=fun Z s=>(f Z s).bind fun d s1=>match d with | .int i=>.ok (.int (-i)) s1 | _=>.no
theorem z5A{f:FE}(h:RE X E a f):RE X E (.UnaryOp .USub a pos) (z2K f):= zE (ziy ze4 h) fun O H Q ⟨Y,Z,s,r,en,h⟩=>by
  refine zB (k:=fun Z d s1=>match d with | .int i=>R.ok (D.int (-i)) s1 | _=>.no) r en h _ fun v H1 Y1 s1 d r1 en1 dn stp h1=>?_;cases d with
  | int i=>
   cases zQ dn;exact ⟨i,rfl,okR.here (b:=V.int (-i)) h1 r1 yn⟩ | _=>exact h1.elim
theorem zaQ{op op':CmpOp}{fo fo':D->D->Sto->R D}{fa fb fc:FE}(ho:∃ r,OpR X (compareOp op) r/\OpF X E r fo)(ho':∃ r,OpR X (compareOp op') r/\OpF X E r fo')(ha:RE X E a fa)(hb:RE X E b fb)(hc:RE X E c fc) (hm:lastMarks [op,op'] [b,c]=false:=by with_unfolding_all rfl):RT X E (.Compare a [op,op'] [b,c] pos) (tOf (kS fo fo' fa fb fc)):=by
 obtain ⟨r,h1,h2⟩:=ho;obtain ⟨r',h1',h2'⟩:=ho';exact z8x (zdf h1 h1' ha hb hc hm) fun O H Q h=>by
  have q:=z3J h;exact z5Q h2 h2' q
def jR(i:Int)(n:Nat):List D:=(List.range n).map fun (k:Nat)=>D.int (i+((k:Nat):Int))
def zaf(f:FA):FI:=fun Z s=>(f Z s).bind fun ds s1=>match ds with
 | [.int i,.int j]=>if -(2 ^ 62)<=i/\i<2 ^ 62/\-(2 ^ 62)<=j/\j<2 ^ 62 then .ok (jR i (j-i).toNat,[]) s1 else .no | _=>.no
theorem zcT{p:Pos}{f:FA}(hg:Gl X "range")(hm:X.mg "range"=none)(ha:RA X E [a,b] f)(hs:starEach [a,b] X.env=[(false,eval a X.env),(false,eval b X.env)]:=by rfl)(hs2:starEach [b] X.env=[(false,eval b X.env)]:=by rfl):RI X E tg (.Call (.Name "range" p) [a,b] [] pos) (zaf f):= z3f (zar hg hm ha hs hs2) fun O H Q ⟨Y,Z,s,r,en,h⟩=>by
  unfold zaf at h;refine ⟨Y,Z,s,r,en,(okR.bind (Dn:=zq (gm X)) h).imp fun vs H1 ⟨Y1,s1,ds,stp,dn,h1⟩=>?_⟩;split at h1
  ·rename_i i j;split at h1
   ·rename_i hj;obtain ⟨v,v',rfl,d1,d2⟩:=z6F dn;cases zQ d1;cases zQ d2;refine ⟨i,j,rfl,hj,h1.here stp.rep fun H2 Y2 s2 stp2 _ k=>⟨fun d hd=>?_,fun hl=>?_⟩⟩
    ·have hi:k<(j-i).toNat:=by
      have:=(_b.mp hd).1;simpa [jR] using this
     refine ⟨hi,fun x H' ⟨e1,e2⟩=>?_⟩;subst e1 e2;refine ⟨Y2,.refl stp2.rep,?_⟩;have e3:d=D.int (i+k):=by
      simp only [jR,_P,_ck hi,_S,_w] at hd;exact hd.symm
     rw [e3];exact yn
    ·have:(jR i (j-i).toNat).length=(j-i).toNat:=by simp [jR]
     show (j-i).toNat<=k;rw [<- this];exact hl
   ·exact h1.elim
  ·exact h1.elim
end
def isK(o:Option NameKind)(k:NameKind):Bool:=match o,k with
 | some .local,.local=>true | some .cell,.cell=>true | some .free,.free=>true | some .globalImplicit,.globalImplicit=>true | _,_=>false
theorem zaP{o:Option NameKind}{k:NameKind}(h:isK o k=true):o=some k:=by cases o with
 | none=>cases k<;>simp [isK] at h | some j=>cases j<;>cases k<;>first | rfl | simp [isK] at h
def isF(k:NameKind):Bool:=match k with | .free=>true | _=>false
theorem zhn{k:NameKind}(h:k=.free):isF k=true:=by subst h;rfl
def zbx(ko:Str->Option NameKind)(names:List (Str×NameKind)):Bool:=names.all fun y=>!isF y.2||(isK (ko y.1) .cell||isK (ko y.1) .free)
theorem z1q{ko:Str->Option NameKind}{names:List (Str×NameKind)}(h:zbx ko names=true):∀ y∈names,y.2=.free->ko y.1=some .cell\/ko y.1=some .free:=fun y hy hf=>by
 have:=_bg.mp h y hy;rw [zhn hf] at this;simp only [Bool.not_true,Bool.false_or,Bool.or_eq_true] at this;exact this.imp zaP zaP
def z9Q(names:List (Str×NameKind)):Bool:=names.all fun y=>isK (names.lookup y.1) y.2
theorem z1y{names:List (Str×NameKind)}(h:z9Q names=true):∀ y∈names,names.lookup y.1=some y.2:=fun y hy=>by
 have:=_bg.mp h y hy;exact zaP this
section
variable {X:Cx}{E:XK}{e a b c tg iter elt:Expr}{es:List Expr}{pos:Pos}{CX:CXT}
variable {scope:Scope}{ifs:List Expr}{fi:FI}{fg:FG}{ft:FT}{fe:FE}{g:TG}{spos py:Pos}
theorem ziU{x:Str}{i:Int}(hg:Gl X x)(hm:∃ t,X.mg x=some (.int i t))(hd:(x==("__debug__":Str))=false:=by decide):RE X E (.Name x pos) (eC (.int i)):=let ⟨_,h⟩:=hm;zif hg h hd
theorem yS(N':List Str)(mp:List (Option Nat))(hc:X.calm=true)(hi:RI X E tg iter fi)(hg:∀ ex s H,PG (zk X N' scope ex s H) tg g)(hgt:z4h (gm X) E mp g fg)(ht:∀ ex s H,z7X (zk X N' scope ex s H) ifs (tT (gm X) E ft))(he:∀ ex s H,RE (zk X N' scope ex s H) E elt fe) (hkd:scope.kind=.function:=by rfl)(hnm:z9Q scope.names=true:=by rfl)(hfr:zbx X.env.kindOf scope.names=true:=by rfl)(hmp:z1F X.N scope.names N' mp=true:=by rfl) (hs:∀ x,foldedSetIterable iter X.env x=pure x:=by intro _;rfl):RE X E (.ListComp elt [⟨tg,iter,ifs,0⟩] scope pos) (zD fi mp fg ft fe):= zgW N' mp hc hi hg hgt ht he hkd (z1y hnm) (z1q hfr) hmp hs
theorem z6W(i:Nat){y:Str}(N':List Str)(mp:List (Option Nat))(hN:X.N.Nodup)(hc:X.calm=true)(hi:RI X E tg iter fi)(hg:∀ ex s H,PG (zk X N' scope ex s H) tg g)(hgt:z4h (gm X) E mp g fg)(ht:∀ ex s H,z7X (zk X N' scope ex s H) ifs (tT (gm X) E ft))(he:∀ ex s H,RE (zk X N' scope ex s H) E elt fe) (hkd:scope.kind=.function:=by rfl)(hnm:z9Q scope.names=true:=by rfl)(hfr:zbx X.env.kindOf scope.names=true:=by rfl)(hmp:z1F X.N scope.names N' mp=true:=by rfl)(hy:X.N[i]? = some y:=by rfl)(hyl:Loc X.env.scope y:=by first | exact Or.inl rfl | exact Or.inr rfl) (hs:∀ x,foldedSetIterable iter X.env x=pure x:=by intro _;rfl) (hsw:swapsWith (.ListComp elt [⟨tg,iter,ifs,0⟩] scope pos) (some (.Name y py)) spos.line X.env=pure true:=by rfl) (hf:X.fn y=true\/X.env.scope.names.lookup y=some .local:=by first | exact .inl rfl | exact .inr rfl | assumption): RS X E (.Assign [.Name y py] (.ListComp elt [⟨tg,iter,ifs,0⟩] scope pos) spos) (yt i (zD fi mp fg ft fe)):= z8Q N' mp hN hc hi hg hgt ht he hkd (z1y hnm) (z1q hfr) hmp hy hyl hs hsw hf
theorem zgc(i:Nat){y:Str}(N':List Str)(mp:List (Option Nat))(hN:X.N.Nodup)(hc:X.calm=true)(hi:RI X E tg iter fi)(hg:∀ ex s H,PG (zk X N' scope ex s H) tg g)(hgt:z4h (gm X) E mp g fg)(ht:∀ ex s H,z7X (zk X N' scope ex s H) ifs (tT (gm X) E ft))(he:∀ ex s H,RE (zk X N' scope ex s H) E elt fe) (hkd:scope.kind=.function:=by rfl)(hnm:z9Q scope.names=true:=by rfl)(hfr:zbx X.env.kindOf scope.names=true:=by rfl)(hmp:z1F X.N scope.names N' mp=true:=by rfl)(hy:X.N[i]? = some y:=by rfl)(hyl:Loc X.env.scope y:=by first | exact Or.inl rfl | exact Or.inr rfl) (hs:∀ x,foldedSetIterable iter X.env x=pure x:=by intro _;rfl) (hsw:swapsWith (.ListComp elt [⟨tg,iter,ifs,0⟩] scope pos) (some (.Name y py)) spos.line X.env=pure true:=by rfl) (hf:X.fn y=true\/X.env.scope.names.lookup y=some .local:=by first | exact .inl rfl | exact .inr rfl | assumption): RS X E (.Assign [.Name y py] (.ListComp elt [⟨tg,iter,ifs,0⟩] scope pos) spos) (yt i (z1U fi mp fg ft fe)):= z9e N' mp hN hc hi hg hgt ht he hkd (z1y hnm) (z1q hfr) hmp hy hyl hs hsw hf
end
theorem zht{P:Program}{w:World}{K:W.Frag}{mg:Str->Option Value}{base:Heap}{x qual:Str}{st:Stmt}{f:Addr}{fd:FuncData}{N ps:List Str}{k n:Nat}{fs:FS}(F:Fun K x qual st f fd)(S:zr N ps (ze st))(hn:ps.length=n) (body:∀ (cdv:Value)(A:Around)(outer:List Env)(s:Shared)(H:Hp)(E:XK),z09 k (A.deeper (envOfC qual (ze st) s.heap.objs.size f cdv))->(z25 CX0 P w K mg base N qual (ze st) f cdv A outer s H E).nox.calm=true-> RSs (z25 CX0 P w K mg base N qual (ze st) f cdv A outer s H E).nox E0 (wV st) fs):z4g P w K mg base CX0 (k+1) f fd ps (zdV ⟨mg,K⟩ (Mof N n fs)):=by
 subst hn;refine F.ok S (fun vs H Q E h=>?_) (fun cdv A outer s H vs Q E hr h=>?_)
 ·obtain ⟨Y,s,ds,_,dn,h⟩:=h;unfold Mof at h;split at h;·rename_i e;rw [dn.length];exact e
  ·exact h.elim
 ·obtain ⟨Y,st0,ds,r,dn,h⟩:=h;refine ⟨_,body cdv A outer s H E hr (by show A.handled.isNone=true;rw [show A.handled=none from hr.hd];rfl),Y,zt N ds,st0,r,ji dn,?_⟩;unfold Mof at h;split at h
  ·split at h
   ·rename_i d s' e;rw [e];intro fv H' Y' stp fd;cases fv with
    | rt v=>exact h v H' Y' stp fd | _=>exact (show False from fd).elim
   ·rename_i Z s' e;rw [e];intro fv H' Y' stp fd;cases fv with
    | nx v=>exact h .non H' Y' stp (by simp [Den]) | _=>exact (show False from fd).elim
   ·exact h.elim
  ·exact h.elim
section
variable {all xs:List D}{Z:Ev}{s:Sto}
theorem z4q{body:D->Ev->Sto->R Fl}(I:Ev->Sto->Prop):∀ (xs:List D),(∀ x∈xs,∀ Z s,I Z s->∃ Z' s',body x Z s=.ok (.nx Z') s'/\I Z' s')->∀ Z s,I Z s->∃ Z' s',wU [] all body xs Z s=.ok (.nx Z') s'/\I Z' s'
 | [],_,Z,s,h=>⟨Z,s,by simp [wU,okG],h⟩ | x::xs,hb,Z,s,h=>by
  obtain ⟨Z1,s1,e1,h1⟩:=hb x (by simp) Z s h;obtain ⟨Z2,s2,e2,h2⟩:=z4q I xs (fun y hy=>hb y (by simp [hy])) Z1 s1 h1;exact ⟨Z2,s2,by simp [wU,okG,e1,e2],h2⟩
theorem z5r{body:D->Sto->R (Option D)}(f:D->D):∀ (xs acc:List D),(∀ x∈xs,body x s=.ok (some (f x)) s)->acc.length+xs.length<=cap->wm [] all body xs acc s=.ok (acc++xs.map f) s
 | [],acc,_,_=>by simp [wm,okG] | x::xs,acc,hb,hl=>by
  have ih:=z5r f xs (acc++[f x]) (fun y hy=>hb y (by simp [hy])) (by simp at hl ⊢;omega);have hc:acc.length<cap:=by simp at hl;omega
  rw [wm];simp [okG,hb x (by simp),hc,ih]
end
section
variable (i j k n:Nat)(Z:Ev)(s:Sto)(f g fa fb fc:FE)(d x y:D)(ds:List D)(ar:FA)(op op':D->D->Sto->R D)(ft ft':FT)(fs fs':FS)(M:Mir)(T:String)(fl fh fo:FO)(fi:FI)(fg:FG)(mp:List (Option Nat))(N:List Str)
@[simp] theorem xo:zc i Z s=(match Z[i]? with | some (some d)=>.ok d s | _=>.no):=id rfl
@[simp] theorem z1u:eC d Z s=.ok d s:=id rfl
@[simp] theorem xN:eOp op fa fb Z s=(fa Z s).bind fun x s1=>(fb Z s1).bind fun y s2=>op x y s2:=id rfl
@[simp] theorem wE:zg M ar Z s=(ar Z s).bind fun xs s1=>M xs s1:=id rfl
@[simp] theorem zF:zi Z s=.ok [] s:=id rfl
@[simp] theorem zu:za f ar Z s=(f Z s).bind fun x s1=>(ar Z s1).bind fun xs s2=>.ok (x::xs) s2:=id rfl
@[simp] theorem vJ:qq ar Z s=(ar Z s).bind fun xs s1=>if xs.length<=cap then .ok (.tup xs) s1 else .no:=id rfl
@[simp] theorem z29:jn ar Z s=(ar Z s).bind fun xs s1=>if xs.length<=cap then .ok (.lst xs) s1 else .no:=id rfl
@[simp] theorem z3F:z7l ar Z s=(ar Z s).bind fun xs s1=>if xs.length<=cap/\D.flat.flats xs=true then .ok (.loc s1.length) (s1++[xs]) else .no:=id rfl
@[simp] theorem zlH:eIs T f Z s=(f Z s).bind fun d s1=>gIs T d s1:=id rfl
@[simp] theorem zkN:z2K f Z s=(f Z s).bind fun d s1=>match d with | .int i=>.ok (.int (-i)) s1 | _=>.no:=id rfl
@[simp] theorem zkI:zjj f Z s=(f Z s).bind fun x s1=>match x with | .bl k=>.ok (.bl (!k)) s1 | _=>.no:=id rfl
@[simp] theorem ziH:zc4 fa fb Z s=(fa Z s).bind fun x s1=>match x with | .bl true=>fb Z s1 | .bl false=>.ok (.bl false) s1 | _=>.no:=id rfl
@[simp] theorem zim:eIf ft fa fb Z s=(ft Z s).bind fun x s1=>if x=true then fa Z s1 else fb Z s1:=id rfl
@[simp] theorem zbM:eSl f fl fh Z s=(f Z s).bind fun x s1=>(fl Z s1).bind fun lo s2=>(fh Z s2).bind fun hi s3=>dSl x lo hi s3:=id rfl
@[simp] theorem qJ:yV Z s=.ok none s:=id rfl
@[simp] theorem z2b:qe f Z s=(f Z s).bind fun d s1=>match d with | .int i=>.ok (some i) s1 | _=>.no:=id rfl
@[simp] theorem qh:tOf f Z s=(f Z s).bind fun d s1=>match d with | .bl k=>.ok k s1 | _=>.no:=id rfl
@[simp] theorem zeC:zfg ft ft' Z s=(ft Z s).bind fun x s1=>if x=true then ft' Z s1 else .ok false s1:=id rfl
@[simp] theorem zke:fOr ft ft' Z s=(ft Z s).bind fun x s1=>if x=true then .ok true s1 else ft' Z s1:=id rfl
@[simp] theorem z8G:z1c ft Z s=(ft Z s).bind fun x s1=>.ok (!x) s1:=id rfl
@[simp] theorem zjc:kS op op' fa fb fc Z s=(fa Z s).bind fun x s1=>(fb Z s1).bind fun y s2=>(op x y s2).bind fun z s3=>match z with
 | .bl true=>(fc Z s3).bind fun w s4=>op' y w s4 | .bl false=>.ok (.bl false) s3 | _=>.no:=id rfl
@[simp] theorem zgZ:zn fs fs' Z s=(fs Z s).bind fun fl s1=>match fl with | .nx Z'=>fs' Z' s1 | fl=>.ok fl s1:=id rfl
@[simp] theorem zk3:xp Z s=.ok (.nx Z) s:=id rfl
@[simp] theorem zlD:fNo Z s=.no:=id rfl
@[simp] theorem wD:wS f Z s=(f Z s).bind fun _ s1=>.ok (.nx Z) s1:=id rfl
@[simp] theorem xT:wZ f Z s=(f Z s).bind fun d s1=>.ok (.rt d) s1:=id rfl
@[simp] theorem zcL:fIf ft fs fs' Z s=(ft Z s).bind fun x s1=>if x=true then fs Z s1 else fs' Z s1:=id rfl
@[simp] theorem zK:yt i f Z s=(f Z s).bind fun d s1=>.ok (.nx (Z.set i (some d))) s1:=id rfl
@[simp] theorem zev:zeF f fg Z s=(f Z s).bind fun d s1=>(fg d Z s1).bind fun Z' s2=>.ok (.nx Z') s2:=id rfl
@[simp] theorem zkK:zlV i j ar Z s=(ar Z s).bind fun ds s1=>match ds with | [x,y]=>.ok (.nx ((Z.set i (some x)).set j (some y))) s1 | _=>.no:=id rfl
@[simp] theorem z6m:wo i d Z s=.ok (Z.set i (some d)) s:=id rfl
@[simp] theorem zeK:xW i j (.tup [x,y]) Z s=.ok ((Z.set i (some x)).set j (some y)) s:=id rfl
@[simp] theorem zgd:z4w fa fb fc Z s=(fc Z s).bind fun d s1=>(fa Z s1).bind fun o s2=>(fb Z s2).bind fun i s3=>match o,i with
 | .loc l,.int k=>match s3[l]? with
  | some xs=>match ixN xs.length k with
   | some j=>if d.flat=true then .ok (.nx Z) (s3.set l (xs.set j d)) else .no | none=>.no
  | none=>.no
 | _,_=>.no:=id rfl
@[simp] theorem zad:xb f Z s=(f Z s).bind fun d s1=>match d with
 | .tup xs=>.ok (xs,[]) s1 | .lst xs=>.ok (xs,[]) s1 | .loc l=>match s1[l]? with | some xs=>.ok (xs,[(l,xs)]) s1 | none=>.no
 | _=>.no:=id rfl
@[simp] theorem zeh:z0x ar Z s=(ar Z s).bind fun ds s1=>match ds with
 | [.int j]=>if -(2 ^ 62)<=j/\j<2 ^ 62 then .ok (wr j.toNat,[]) s1 else .no | _=>.no:=id rfl
@[simp] theorem zfu:zaf ar Z s=(ar Z s).bind fun ds s1=>match ds with
 | [.int i,.int j]=>if -(2 ^ 62)<=i/\i<2 ^ 62/\-(2 ^ 62)<=j/\j<2 ^ 62 then .ok (jR i (j-i).toNat,[]) s1 else .no | _=>.no:=id rfl
@[simp] theorem zhB:zgl ar Z s=(ar Z s).bind fun ds s1=>match ds with
 | [x,y]=>match z95 s1 x,z95 s1 y with
  | some p,some q=>.ok (z50 p.1 q.1,p.2++q.2) s1 | _,_=>.no
 | _=>.no:=id rfl
@[simp] theorem kQ:z73 fi fg fs Z s=(fi Z s).bind fun it s1=>wU it.2 it.1 (fun d Z s=>(fg d Z s).bind fun Z' s'=>fs Z' s') it.1 Z s1:=id rfl
@[simp] theorem z0p:z6H fi mp fg ft f Z s=(fi Z s).bind fun it s1=>wm it.2 it.1 (fun d s=>(fg d (zU mp Z) s).bind fun Z' s'=>(ft Z' s').bind fun b s2=>if b=true then (f Z' s2).bind fun d s3=>.ok (some d) s3 else .ok none s2) it.1 [] s1:=id rfl
@[simp] theorem kO:zD fi mp fg ft f Z s=(z6H fi mp fg ft f Z s).bind fun xs s1=>.ok (.lst xs) s1:=id rfl
@[simp] theorem zcd:z1U fi mp fg ft f Z s=(z6H fi mp fg ft f Z s).bind fun xs s1=>if D.flat.flats xs=true then .ok (.loc s1.length) (s1++[xs]) else .no:=id rfl
@[simp] theorem zko:qj Z s=.ok true s:=id rfl
@[simp] theorem z6t:z9y fa fb Z s=(fa Z s).bind fun o s1=>match o with
 | .loc l=>(fb Z s1).bind fun d s2=>match s2[l]? with
  | some xs=>if d.flat=true/\xs.length<cap then .ok .non (s2.set l (xs++[d])) else .no | none=>.no
 | _=>.no:=id rfl
@[simp] theorem zdU:zU [] Z=[]:=id rfl
@[simp] theorem zgE:zU (some i::mp) Z=(Z[i]?).getD none::zU mp Z:=id rfl
@[simp] theorem zgH:zU (none::mp) Z=none::zU mp Z:=id rfl
variable (a b:Int)(u v:Bool)(xs ys:List D)
@[simp] theorem z5w:qr (.int a) (.int b) s=.ok (.int (a+b)) s:=rfl
@[simp] theorem z5B:qr (.tup xs) (.tup ys) s=if xs.length+ys.length<=cap then .ok (.tup (xs++ys)) s else .no:=rfl
@[simp] theorem zhK:qr (.lst xs) (.lst ys) s=if xs.length+ys.length<=cap then .ok (.lst (xs++ys)) s else .no:=rfl
@[simp] theorem zgX:z9U (.int a) (.int b) s=.ok (.int (a-b)) s:=rfl
theorem zdR:uo (.int a) (.int b) s=if a.natAbs<BIG/\b.natAbs<BIG then .ok (.int (a*b)) s else .no:=by
 simp only [uo,dII,iOk];split<;>(rename_i h;split at h<;>simp_all)
theorem zaW:z4n (.int a) (.int b) s=if 0<b/\b.natAbs<BIG then .ok (.int (a / b)) s else .no:=by
 simp only [z4n,dII,iOk];split<;>(rename_i h;split at h<;>simp_all)
theorem zh2:zaR (.int a) (.int b) s=if 0<b then .ok (.int (a % b)) s else .no:=by
 simp only [zaR,dII,iOk];split<;>(rename_i h;split at h<;>simp_all)
theorem zel:zaS (.int a) (.int b) s=if 0<=b/\b<=1000/\a.natAbs<1000 then .ok (.int (a ^ b.toNat)) s else .no:=by
 simp only [zaS,dII,iOk];split<;>(rename_i h;split at h<;>simp_all)
@[simp] theorem zlf:dLt (.int a) (.int b) s=.ok (.bl (decide (a<b))) s:=rfl
@[simp] theorem zlB:dLe (.int a) (.int b) s=.ok (.bl (decide (a<=b))) s:=rfl
@[simp] theorem zhe:dGt (.int a) (.int b) s=.ok (.bl (decide (b<a))) s:=rfl
@[simp] theorem zlp:dGe (.int a) (.int b) s=.ok (.bl (decide (b<=a))) s:=rfl
@[simp] theorem z7e:dEq (.int a) (.int b) s=.ok (.bl (decide (a=b))) s:=by
 have:eqD (.int a) (.int b)=decide (a=b):=by
  simp only [eqD,ki,PyData.eqv];rw [Bool.eq_iff_iff];simp
 rw [dEq,this];rfl
@[simp] theorem zfm:dNe (.int a) (.int b) s=.ok (.bl (decide (a≠b))) s:=by
 have:eqD (.int a) (.int b)=decide (a=b):=by
  simp only [eqD,ki,PyData.eqv];rw [Bool.eq_iff_iff];simp
 rw [dNe,this,_f (by constructor<;>rfl)];simp
@[simp] theorem zls:dEq (.bl u) (.bl v) s=.ok (.bl (u==v)) s:=by cases u<;>cases v<;>rfl
@[simp] theorem zlq:dNe (.bl u) (.bl v) s=.ok (.bl (u != v)) s:=by cases u<;>cases v<;>rfl
end
theorem zh{f g:FS}{Z Z':Ev}{s s':Sto}(h:f Z s=.ok (.nx Z') s'):zn f g Z s=g Z' s':=by simp [h]
theorem zem{f g:FS}{Z:Ev}{s s':Sto}{d:D}(h:f Z s=.ok (.rt d) s'):zn f g Z s=.ok (.rt d) s':=by simp [h]
theorem jk{all:List D}{body:D->Ev->Sto->R Fl}(I:Nat->Ev->Sto->Prop):∀ (xs:List D)(k:Nat),(∀ j x,xs[j]? = some x->∀ Z s,I (k+j) Z s->∃ Z' s',body x Z s=.ok (.nx Z') s'/\I (k+j+1) Z' s')-> ∀ Z s,I k Z s->∃ Z' s',wU [] all body xs Z s=.ok (.nx Z') s'/\I (k+xs.length) Z' s'
 | [],k,_,Z,s,h=>⟨Z,s,by simp [wU,okG],h⟩ | x::xs,k,hb,Z,s,h=>by
  obtain ⟨Z1,s1,e1,h1⟩:=hb 0 x (by simp) Z s h;obtain ⟨Z2,s2,e2,h2⟩:=jk (all:=all) I xs (k+1) (fun j y hy Z s hi=>by
   have e:k+1+j=k+(j+1):=by omega
   rw [e] at hi ⊢;exact hb (j+1) y (by simpa using hy) Z s hi) Z1 s1 h1;refine ⟨Z2,s2,by simp [wU,okG,e1,e2],?_⟩;have e:k+(x::xs).length=k+1+xs.length:=by simp;omega
  rw [e];exact h2
theorem z6j{n j:Nat}{x:D}(h:(wr n)[j]? = some x):j<n/\x=.int j:=by
 have hj:j<n:=by
  have:=(_b.mp h).1;simpa [wr] using this
 refine ⟨hj,?_⟩;simp only [wr,_P,_ck hj,_S,_w] at h;exact h.symm
theorem z9h {n:Nat} {x:D} (h:x∈wr n):∃ j:Nat,j<n/\x=.int j:=by
 obtain ⟨j,hj,e⟩:=_D.mp h;have:=z6j (n:=n) (j:=j) (x:=x) (by rw [_e hj,e]);exact ⟨j,this.1,this.2⟩
theorem ye:∀ (ns:List Int),D.flat.flats (ns.map D.int)=true
 | []=>rfl | n::ns=>by simp [D.flat.flats,D.flat,ye ns]
theorem z1t(i:Int):(D.int i).flat=true:=rfl
theorem uA.flatten{mg:Gm}{H H':Hp}{Y Y':List Addr}{ys:List D}{c:Addr}(k:∀ b o,H b=some o->(∀ vs,o≠.lst vs)->(∀ kvs,o≠.dT kvs)->H' b=some o)(f:D.flat.flats ys=true)(e:H' c=H c)(h:uA mg H Y ys c):uA mg H' Y' ys c:=by
 rcases h with ⟨vs,h1,h2⟩ | ⟨kvs,h1,h2⟩ | ⟨o,kvs,ys,h1,h2⟩;·exact .inl ⟨vs,e.trans h1,h2.flatten k f⟩
 ·exact .inr (.inl ⟨kvs,e.trans h1,h2⟩)
 ·exact .inr (.inr ⟨o,kvs,ys,e.trans h1,h2⟩)
end Dd
namespace Zz
open PySem.AutoSeq1 (wpAny_loadPart')
section
variable {P:Program}{w:World}{A:Around}{E:Value->Shared->Prop}{s:Shared}
theorem zgg {e it l:Addr} {b:Bool} {k:Nat} {xs:Array Value} {x old:Value} {Q:Option Value->Shared->Prop} (he:IsEnum s.heap e it k old) (h1:Sit b s.heap it l k) (c1:Sco b s.heap l xs) (ex:xs[k]? = some x) (ne:e≠it) (q:∀ h',IsEnumOut h' e it ((k:Int)+1) x s.heap.objs.size->Sit b h' it l (k+1)->h'.get? s.heap.objs.size=some {cls:=.type "tuple",data:=.seq #[.int k s.toks,x]}-> (∀ c o,c≠e->c≠it->s.heap.get? c=some o->h'.get? c=some o)->Q (some (.ref s.heap.objs.size)) {s with heap:=h',toks:=s.toks+1}):wpAny (model P w) A (pyNext (.ref e)) Q E s:=by
 have hT:s.TypeIs (.ref e) "enumerate":=⟨_,he,rfl⟩;unfold pyNext;refine _a (_bb (_G (name:=Str.ofString "__next__") hT _bn (_I _bn hT F.entry_enumerate_next (Q:=fun v s'=>wpAny (model P w) A (pure (some v)) Q E s') ?_ (F.args_enumerate_next_1 _))));obtain ⟨hp,g,d,tk,os⟩:=s;show wpAny _ _ (field (.ref e) 2 >>= _) _ _ _;refine _a (_R he rfl (x:=.ref it) rfl ?_);refine _a (nx h1 c1 ex fun g1 t1 s1=>?_);replace s1:Heap.SameBut it hp g1:=s1;have e1:IsEnum g1 e it k old:=(s1.2 e ne).trans he;show wpAny _ _ (field (.ref e) 3 >>= _) _ _ ⟨g1,g,d,tk,os⟩;refine _a (_R e1 rfl (x:=rawInt k) rfl ?_);show wpAny _ _ (field (.ref e) 4 >>= _) _ _ ⟨g1,g,d,tk,os⟩;refine _a (_R e1 rfl (x:=.none) rfl ?_);show wpAny _ _ (mkInt k >>= _) _ _ ⟨g1,g,d,tk,os⟩;refine _a (wpAny_mkInt ?_);show wpAny _ _ (setField (.ref e) 3 (rawInt ((k:Int)+1)) >>= _) _ _ ⟨g1,g,d,tk+1,os⟩;refine _a (_Y e1 (by simp) fun g2 e2 s2=>?_);replace s2:Heap.SameBut e g1 g2:=s2;replace e2:IsEnum g2 e it ((k:Int)+1) old:=e2;show wpAny _ _ (setField (.ref e) 4 .none >>= _) _ _ ⟨g2,g,d,tk+1,os⟩;refine _a (_Y e2 (by simp) fun g3 e3 s3=>?_);replace s3:Heap.SameBut e g2 g3:=s3;replace e3:IsEnum g3 e it ((k:Int)+1) old:=e3;show wpAny _ _ (newTuple [.int k tk,x] >>= _) _ _ ⟨g3,g,d,tk+1,os⟩;refine _a (_cw ?_);have e4:IsEnum (g3.push {cls:=.type "tuple",data:=.seq #[.int k tk,x]}) e it ((k:Int)+1) old:=_d _ e3;generalize hg4:g3.push {cls:=.type "tuple",data:=.seq #[.int k tk,x]}=g4 at e4;have sz:g3.objs.size=hp.objs.size:=by rw [s3.1,s2.1,s1.1]
 have el:e<hp.objs.size:=_l he;have t4:g4.get? hp.objs.size=some {cls:=.type "tuple",data:=.seq #[.int k tk,x]}:=by rw [<- hg4,<- sz];exact _h _ rfl
 have k4:∀ c o,c≠e->c≠it->hp.get? c=some o->g4.get? c=some o:=fun c o n1 n2 z=>by rw [<- hg4];exact _d _ (zo s3 n1 (zo s2 n1 (zo s1 n2 z)))
 have i4:Sit b g4 it l (k+1):=t1.to fun o z=>by rw [<- hg4];exact _d _ (zo s3 ne.symm (zo s2 ne.symm z))
 show wpAny _ _ (Builtin.SmallTypes.ownedTupleIsFree (.ref e) >>= _) _ _ ⟨g4,g,d,tk+1,os⟩;rw [sz];refine _a ?_;unfold Builtin.SmallTypes.ownedTupleIsFree;refine _a (_R e4 rfl (x:=.none) rfl (_c ?_));simp only [_H];refine _a (_b0 ?_);refine _a (_R e4 rfl (x:=old) rfl ?_);refine _a (_Y e4 (by simp) fun g5 e5 s5=>?_);replace s5:Heap.SameBut e g4 g5:=s5;replace e5:IsEnum g5 e it ((k:Int)+1) x:=e5;show wpAny _ _ (Builtin.SmallTypes.ownedTupleHandOut (.ref e) (.ref hp.objs.size) >>= _) _ _ ⟨g5,g,d,tk+1,os⟩;refine _a ?_;unfold Builtin.SmallTypes.ownedTupleHandOut;refine _a (_Y e5 (by simp) fun g6 e6 s6=>?_);replace s6:Heap.SameBut e g5 g6:=s6;replace e6:IsEnumOut g6 e it ((k:Int)+1) x hp.objs.size:=e6;refine _Y e6 (by simp) fun g7 e7 s7=>?_;replace s7:Heap.SameBut e g6 g7:=s7;replace e7:IsEnumOut g7 e it ((k:Int)+1) x hp.objs.size:=e7;have up:∀ c o,c≠e->g4.get? c=some o->g7.get? c=some o:=fun c o n z=>zo s7 n (zo s6 n (zo s5 n z));refine _a (wpAny_letGo (_c ⟨_,rfl,_c (q g7 e7 (i4.to fun o z=>up _ o ne.symm z) (up _ _ (_cn el) t4) fun c o n1 n2 z=>up c o n1 (k4 c o n1 n2 z))⟩))
theorem zj3 {e it l:Addr} {b:Bool} {k:Nat} {xs:Array Value} {old:Value} {Q:Option Value->Shared->Prop} (hh:A.handled=none) (he:IsEnum s.heap e it k old) (h1:Sit b s.heap it l k) (c1:Sco b s.heap l xs) (ex:xs[k]? = none) (q:∀ h',Heap.ExtBut it s.heap h'->Q none {s with heap:=h'}):wpAny (model P w) A (pyNext (.ref e)) Q E s:=by
 have hT:s.TypeIs (.ref e) "enumerate":=⟨_,he,rfl⟩;unfold pyNext;refine _a (_bb (_G (name:=Str.ofString "__next__") hT _bn (_I _bn hT F.entry_enumerate_next ?_ (F.args_enumerate_next_1 _))));show wpAny _ _ (field (.ref e) 2 >>= _) _ _ _;refine _a (_R he rfl (x:=.ref it) rfl ?_);refine _a (za9 hh h1 c1 ex fun h' x he' hx'=>?_);obtain ⟨o,ho,hc⟩:=hx';refine _a (_b2 (T:="StopIteration") (b:=true) ⟨o,ho,hc⟩ _cx ?_);exact _c (q _ he')
end
theorem zdH(b:Bool)(l:Addr)(xs:Array Value): Meets (Builtin.«enumerate.__new__» ⟨[.type "enumerate",.ref l],[]⟩) (fun _ R s=>Sco b s.heap l xs/\R (.ok (.ret (.ref (s.heap.push (itO b l)).objs.size))) {s with heap:=(s.heap.push (itO b l)).push {cls:=.type "enumerate",data:=.fields #[.none,.bool false,.ref s.heap.objs.size,rawInt 0,.none,.none]}}):= .of_wp fun prog w A R s h=>by
  obtain ⟨hp,g,d,tk,os⟩:=s;obtain ⟨c1,h⟩:=h;have hsub:=sub_enumerate;have q1:Sco b (Shared.heap ⟨hp,g,d,tk,os⟩) l xs:=c1;obtain ⟨o,hl⟩:∃ o,hp.get? l=some o:=by cases b with
   | true=>obtain ⟨o,e,_⟩:=c1;exact ⟨o,e⟩ | false=>obtain ⟨o,e,_⟩:=c1;exact ⟨o,e⟩
  wp_walk using _aE hl;refine wpAny_stack_any fun st=>_c ?_;split
  ·rename_i c _ _ _ _ _;cases (c==Value.type "enumerate")
   ·wp_walk using _aE hl,z3o q1;exact ⟨_,rfl,h⟩
   ·wp_walk using _aE hl,z3o q1;exact ⟨_,rfl,h⟩
  ·wp_walk using _aE hl,z3o q1;exact ⟨_,rfl,h⟩
section
variable {P:Program}{w:World}{A:Around}{E:Value->Shared->Prop}{s:Shared}
theorem zfP {b:Bool} {l:Addr} {xs:Array Value} {Q:Value->Shared->Prop} (c1:Sco b s.heap l xs) (h:∀ h',IsEnum h' (s.heap.objs.size+1) s.heap.objs.size 0 .none->Sit b h' s.heap.objs.size l 0->(∀ c o,s.heap.get? c=some o->h'.get? c=some o)->Q (.ref (s.heap.objs.size+1)) {s with heap:=h'}): wpAny (model P w) A (call (.type "enumerate") [.ref l]) Q E s:=by
 refine callType_new F.called_enumerate (by decide) (F.typeCall_enumerate_1 _) (F.newCall_enumerate_1 _) (fun obj=>F.args_object_init_2 obj _) F.entry_enumerate_new (zdH b l xs) ⟨c1,?_⟩;have z1:(s.heap.push (itO b l)).objs.size=s.heap.objs.size+1:=_al ..;have g2:=_h (s.heap.push (itO b l)) (o:={cls:=.type "enumerate",data:=.fields #[.none,.bool false,.ref s.heap.objs.size,rawInt 0,.none,.none]}) rfl;have g1:((s.heap.push (itO b l)).push {cls:=.type "enumerate",data:=.fields #[.none,.bool false,.ref s.heap.objs.size,rawInt 0,.none,.none]}).get? s.heap.objs.size=some (itO b l):=_d _ (_h _ (z1A b l));show _/\_;rw [z1] at g2;rw [z1];exact ⟨⟨_,g2,rfl⟩,h _ g2 (z5u g1) fun c o e=>_d _ (_d _ e)⟩
end
end Zz
namespace L2
open Zz
def Ite(K:W.Frag)(b:Bool)(l:Addr):It:= ⟨fun i H=>∃ xs x,Sq b K H l xs/\xs[i]? = some x, fun i H v H'=>∃ T x,H T=none/\v=.ref T/\H'=upd H T (.tup [.int i,x])/\∀ xs,Sq b K H l xs->xs[i]? = some x, fun i H=>∃ xs,Sq b K H l xs/\xs.length<=i⟩
theorem zb9 {P:Program} {w:World} {K:W.Frag} {elts:List Expr} {kt:Nat} {tp:Pos} {b:Bool} {e it l:Addr} (ne:e≠it): zcI P w K (.Tuple elts kt tp) (Ite K b l) [e,it] e (fun i h=>(∃ old,IsEnum h e it ((i:Nat):Int) old)/\Sit b h it l i) where
 mem:=by simp
 obj:=fun i h ⟨⟨old,he⟩,h1⟩ c hc=>by
  have hc':c=e\/c=it:=by simpa using hc
  rcases hc' with rfl | rfl;·exact ⟨_,he,fun v z=>by simp at z⟩
  ·exact h1.ob
 keep:=fun i h h' ⟨⟨old,he⟩,h1⟩ k=>⟨⟨old,k e (by simp) _ he⟩,h1.to fun o z=>k it (by simp) o z⟩;item:=by
  intro X hP hw hK hc i pins s O H E I hf ⟨⟨old,he⟩,h1⟩ ⟨xs,x,qx,ex⟩;subst hP hw hK;obtain ⟨ix,rx,cx⟩:=I.sq qx;obtain ⟨u,hu,ru⟩:=rx.get ex;refine zgg he h1 cx (x:=u) (by simpa using hu) ne fun g a1 a2 a3 hk=>⟨_,rfl,?_⟩;have I1:Inv X pins O H {s with heap:=g,toks:=s.toks+1}:=I.turnedL (t':=s.toks+1) (ch:=[e,it]) (fun c o n z=>hk c o (fun t=>n (by simp [t])) (fun t=>n (by simp [t])) z) hf;refine wpAny_letOwnedTupleGo_enum a1 fun g2 e2 s2=>?_;obtain ⟨f0,f1,f2,f3,f4,f5⟩:=hf e (by simp);have I2:Inv X pins O H {s with heap:=g2,toks:=s.toks+1}:=I1.turned (t':=s.toks+1) (fun c o n z=>zo s2 n z) f0 f1 f3 f4 f5;have new:z2G X pins H s.heap.objs.size:=I.fpOk (_g _) (I.hok.fresh (_g _));have el:e≠s.heap.objs.size:=_x (_l he);have p2:g2.get? s.heap.objs.size=some {cls:=.type "tuple",data:=.seq #[.int i s.toks,u]}:=zo s2 el.symm a3;refine ⟨.ref s.heap.objs.size,upd H s.heap.objs.size (.tup [.int i,x]),I2.track new ⟨?_,[.int i s.toks,u],.cons ⟨_,rfl⟩ (.cons ru .nil),⟨_,p2,rfl,rfl,_,rfl⟩⟩,rfl,⟨_,x,new.1,rfl,rfl,fun zs qz=>?_⟩,⟨⟨_,by simpa using e2⟩,a2.to fun o z=>zo s2 ne.symm z⟩,fun c hc=>?_⟩;·show 2<=sizeLine;decide
  ·rw [I.sq_inj qz qx];exact ex
  ·have hc':c=e\/c=it:=by simpa using hc
   have:c≠s.heap.objs.size:=by
    rcases hc' with rfl | rfl;·exact el
    ·exact _x h1.lt
   rw [zx this];exact (hf c hc).1
 done:=by
  intro X hP hw hK hc i pins s O H E I hf ⟨⟨old,he⟩,h1⟩ ⟨xs,qx,hl⟩;subst hP hw hK;obtain ⟨ix,rx,cx⟩:=I.sq qx;have lx:=rx.length;obtain ⟨f0,f1,f2,f3,f4,f5⟩:=hf it (by simp);exact zj3 (I.ok.hd hc) he h1 cx (by simp;omega) fun g hk=>⟨rfl,I.turned (t':=s.toks) (fun c o n z=>hk c o n z) f0 f1 f3 f4 f5⟩
 self:=fun _ _ _ _ _ ⟨⟨_,he⟩,_⟩ h=>wpAny_pyIter_enum he h
theorem zfr{X:Cx}{elts:List Expr}{kt:Nat}{tp:Pos}{a:Expr}{ta:TA}{p pos:Pos}(hg:Gl X "enumerate")(hm:X.mg "enumerate"=none)(ha:PA X [a] ta)(hs:starEach [a] X.env=(false,eval a X.env)::starEach [] X.env:=by rfl)(hpl:(backTo pos (starEach [] X.env)).any (·.1)=false:=by rfl): PI X (.Tuple elts kt tp) (.Call (.Name "enumerate" p) [a] [] pos) (fun O H R=>ta O H fun vs H1=>∃ l b,vs=[.ref l]/\(∃ xs,Sq b X.K H1 l xs)/\R (Ite X.K b l) H1):=by
 intro pins s O H R I h;refine _ax (z2w I hg hm (u:=.type "enumerate") (by decide +kernel) ?_ (by decide) (by decide));refine _aA (thn (ha pos pins s O H _ I h) fun us s1 ⟨vs,H1,I1,r1,q1⟩=>?_) hs hpl;obtain ⟨l,b,rfl,⟨xs,qx⟩,q⟩:=q1;obtain ⟨u,rfl,ru⟩:=vals1 r1;cases ru;obtain ⟨ix,rx,cx⟩:=I1.sq qx;refine zfP cx fun g he h1 hk=>?_;refine wpAny_pyIter_enum he ?_;refine ⟨_,_,_,_,H1,rfl,I1.kept (t':=s1.toks) hk,zb9 (Nat.succ_ne_self _),⟨⟨_,he⟩,h1⟩,fun c hc=>?_,q⟩;have hc':s1.heap.objs.size<=c:=by
  have:c=s1.heap.objs.size+1\/c=s1.heap.objs.size:=by simpa using hc
  rcases this with rfl | rfl;·exact _cQ _
  ·exact _g _
 exact I1.fpOk hc' (I1.hok.fresh hc')
end L2
namespace L2
end L2
namespace Dd
open L2
section
variable {X:Cx}{E:XK}{e a b c tg iter elt:Expr}{es:List Expr}{pos:Pos}{CX:CXT}
def zlv(i j k:Nat)(f:FA):FS:=fun Z s=>(f Z s).bind fun ds s1=>match ds with | [x,y,z]=>.ok (.nx (((Z.set i (some x)).set j (some y)).set k (some z))) s1 | _=>.no
def z2M:Nat->List D->List D
 | _,[]=>[] | i,x::xs=>.tup [.int i,x]::z2M (i+1) xs
theorem z0E:∀ (i:Nat)(xs:List D),(z2M i xs).length=xs.length
 | _,[]=>rfl | i,x::xs=>by simp [z2M,z0E (i+1) xs]
theorem z8o:∀ {i k:Nat}{xs:List D}{d:D},(z2M i xs)[k]? = some d->∃ x,xs[k]? = some x/\d=.tup [.int ((i+k:Nat):Int),x]
 | _,_,[],_,h=>by simp [z2M] at h | i,0,x::xs,d,h=>by simp [z2M] at h;exact ⟨x,by simp,by simp [h]⟩ | i,k+1,x::xs,d,h=>by
  simp only [z2M,_m] at h;obtain ⟨y,h1,h2⟩:=z8o h;refine ⟨y,by simpa using h1,?_⟩;rw [h2,show i+1+k=i+(k+1) by omega]
def z58(f:FA):FI:=fun Z s=>(f Z s).bind fun ds s1=>match ds with
 | [x]=>match z95 s1 x with
  | some p=>.ok (z2M 0 p.1,p.2) s1 | none=>.no
 | _=>.no
theorem zet{p tp:Pos}{elts:List Expr}{kt:Nat}{f:FA}(hg:Gl X "enumerate")(hm:X.mg "enumerate"=none)(ha:RA X E [a] f)(hs:starEach [a] X.env=(false,eval a X.env)::starEach [] X.env:=by rfl)(hpl:(backTo pos (starEach [] X.env)).any (·.1)=false:=by rfl): RI X E (.Tuple elts kt tp) (.Call (.Name "enumerate" p) [a] [] pos) (z58 f):= z3f (zfr hg hm ha hs hpl) fun O H Q ⟨Y,Z,s,r,en,h⟩=>by
  unfold z58 at h;refine ⟨Y,Z,s,r,en,(okR.bind (Dn:=zq (gm X)) h).imp fun vs H1 ⟨Y1,s1,ds,stp,dn,h1⟩=>?_⟩;split at h1
  ·rename_i x;split at h1
   ·rename_i p ex;obtain ⟨xs,gx⟩:=p;obtain ⟨v,rfl,d1⟩:=z1P dn;obtain ⟨og1,b1,a1,rfl,k1⟩:=z7i stp.rep ex d1;obtain ⟨w1,q1,_⟩:=k1 H1 Y1 s1 (.refl stp.rep) og1;refine ⟨a1,b1,rfl,⟨w1,q1⟩,h1.here stp.rep fun H2 Y2 s2 stp2 og i=>⟨fun d hd=>?_,fun hl=>?_⟩⟩
    ·obtain ⟨x,e1,rfl⟩:=z8o hd;obtain ⟨w1,q1,n1⟩:=k1 H2 Y2 s2 stp2 og;obtain ⟨u1,g1,m1⟩:=n1.get e1;refine ⟨⟨w1,u1,q1,g1⟩,fun z H' ⟨T,p,hT,ez,eH,hp⟩=>?_⟩;subst ez eH;have e3:=hp w1 q1;rw [g1] at e3;cases e3;have st3:=xr.lay (o:=.tup [.int i,u1]) stp2.rep hT (by intro _ z;cases z);refine ⟨Y2,st3,?_⟩;simp only [Den,_W];exact ⟨T,[.int i,u1],rfl,zC,(zq.cons yn (zq.one m1)).mono st3⟩
    ·obtain ⟨w1,q1,n1⟩:=k1 H2 Y2 s2 stp2 og;refine ⟨w1,q1,?_⟩;rw [n1.length];simpa only [z0E] using hl
   ·exact h1.elim
  ·exact h1.elim
end
end Dd
namespace L2
end L2
namespace Dd
open L2
def vq(ft:FT)(fb:FS):Nat->Ev->Sto->R Fl
 | 0,_,_=>.no | k+1,Z,s=>(ft Z s).bind fun b s1=>if b=true then (fb Z s1).bind fun fl s2=>match fl with
   | .nx Z'=>vq ft fb k Z' s2 | .ct Z'=>vq ft fb k Z' s2 | .bk Z'=>.ok (.nx Z') s2 | .rt d=>.ok (.rt d) s2 else .ok (.nx Z) s1
theorem z0e{ft:FT}{fb:FS}:∀ {k:Nat}{Z:Ev}{s:Sto},vq ft fb k Z s≠.no->vq ft fb (k+1) Z s=vq ft fb k Z s
 | 0,Z,s,h=>absurd rfl h | k+1,Z,s,h=>by
  rw [vq] at h ⊢;conv=>rhs;rw [vq]
  cases e:ft Z s with
  | no=>rfl | ex c t=>rfl | ok b s1=>
   rw [e] at h;simp only [Rb] at h ⊢;cases b with
   | false=>rfl | true=>
    rw [_f rfl] at h ⊢;rw [_f rfl];cases e2:fb Z s1 with
    | no=>rfl | ex c t=>rfl | ok fl s2=>
     rw [e2] at h;simp only [Rb] at h ⊢;cases fl with
     | nx Z'=>exact z0e h | ct Z'=>exact z0e h | bk Z'=>rfl | rt d=>rfl
theorem z8d{ft:FT}{fb:FS}{k m:Nat}{Z:Ev}{s:Sto}(h:vq ft fb k Z s≠.no)(hm:k<=m):vq ft fb m Z s=vq ft fb k Z s:=by induction hm with
 | refl=>rfl | step _ ih=>rw [z0e (by rw [ih];exact h),ih]
open Classical in
def z2v(ft:FT)(fb:FS):FS:=fun Z s=>if h:∃ k,vq ft fb k Z s≠.no then vq ft fb h.choose Z s else .no
theorem z8q{ft:FT}{fb:FS}{k:Nat}{Z:Ev}{s:Sto}{r:R Fl}(h:vq ft fb k Z s=r)(hr:r≠.no):z2v ft fb Z s=r:=by
 subst h;have hx:∃ k,vq ft fb k Z s≠.no:=⟨k,hr⟩;unfold z2v;rw [dif_pos hx];rcases Nat.le_total k hx.choose with z | z;·exact z8d hr z
 ·exact (z8d hx.choose_spec z).symm
theorem zaA {X:Cx} {E:XK} {c:Expr} {body:List Stmt} {pos:Pos} {ft:FT} {fb:FS} (hp:PassesOwn (model X.prog X.w) X.A X.env X.xe) (hc:RT X E c ft) (hb:RSs X E body fb):RS X E (.While c body [] pos) (z2v ft fb):= vK (zdu hp hc hb) fun D O H ⟨Y,Z,s,r,en,h⟩=>by
  unfold z2v at h;split at h
  ·rename_i hx;refine ⟨fun m O H=>∃ Y Z s,Rep (gm X) H Y s/\vG (gm X) H Y Z O/\okR (gm X) E H Y (FlD (gm X)) (vq ft fb m Z s) (z3w D),⟨_,Y,Z,s,r,en,h⟩,?_⟩;rintro m O H ⟨Y,Z,s,r,en,h⟩;cases m with
   | zero=>exact h.elim | succ m=>
    rw [vq] at h;refine ⟨Y,Z,s,r,en,(okR.bind (Dn:=bD) h).imp fun b H1 ⟨Y1,s1,b',stp,eb,h1⟩=>?_⟩;cases (show b'=b from eb);cases b with
    | false=>
     rw [_q (by decide)] at h1 ⊢;exact okR.here (b:=FlV.nx O) (Q:=z3w D) h1 stp.rep (en.mono stp) | true=>
     rw [_f rfl] at h1 ⊢;refine ⟨fun O' H'=>∃ Y Z s,Rep (gm X) H' Y s/\vG (gm X) H' Y Z O'/\okR (gm X) E H' Y (FlD (gm X)) (vq ft fb m Z s) (z3w D),fun O' H' q=>⟨m,_aT _,q⟩,Y1,Z,s1,stp.rep,en.mono stp,(okR.bind (Dn:=FlD (gm X)) h1).imp fun fv H2 ⟨Y2,s2,fl,stp2,dn,h2⟩=>?_⟩;cases fl with
     | nx Z'=> cases fv with
      | nx O'=>exact ⟨Y2,Z',s2,stp2.rep,dn,h2⟩ | _=>exact (show False from dn).elim
     | ct Z'=> cases fv with
      | ct O'=>exact ⟨Y2,Z',s2,stp2.rep,dn,h2⟩ | _=>exact (show False from dn).elim
     | bk Z'=> cases fv with
      | bk O'=>exact okR.here (b:=FlV.nx O') (Q:=z3w D) (a:=Fl.nx Z') (s:=s2) h2 stp2.rep dn | _=>exact (show False from dn).elim
     | rt d=> cases fv with
      | rt v=>exact okR.here (b:=FlV.rt v) (Q:=z3w D) (a:=Fl.rt d) (s:=s2) h2 stp2.rep dn | _=>exact (show False from dn).elim
  ·exact h.elim
end Dd
namespace PySem
open PySem.AutoSeq1 (wpAny_loadPart')
open MeetsSeq MeetsSeq2 SeqAt
theorem z8S{M:Model}{A:Around}{E:Value->Shared->Prop}{s:Shared}{β:Type}(f:Nat->β->Sem (ForInStep β))(I:Nat->β->Shared->Prop)(Q:β->Shared->Prop)(n:Nat) (turn:∀ i b s,i<n->I i b s->wpAny M A (f i b) (fun r s'=>match r with | .yield b'=>I (i+1) b' s' | .done b'=>Q b' s') E s) (fin:∀ b s,I n b s->Q b s)(b:β)(h:I 0 b s):wpAny M A (forIn ([0:n]:Std.Legacy.Range) b f) Q E s:=by
 rw [Std.Legacy.Range.forIn_eq_forIn_range'];simp only [Std.Legacy.Range.size,Nat.sub_zero,Nat.add_sub_cancel,Nat.div_one];refine wpAny_forIn_list f (fun uh b s'=>∃ i,uh=List.range' i (n-i)/\i<=n/\I i b s') _ ?_ ?_ _ _ ⟨0,by simp,_ae _,h⟩
 ·rintro x uh b s' ⟨i,hr,hi,hI⟩;have hlt:i<n:=by
   rcases Nat.lt_or_ge i n with h | h;·exact h
   ·rw [Nat.sub_eq_zero_of_le h] at hr;simp at hr
  obtain ⟨rfl,hrest⟩:x=i/\uh=List.range' (i+1) (n-(i+1)):=by
   have e:n-i=(n-(i+1))+1:=by omega
   rw [e,List.range'_succ] at hr;injection hr with h1 h2;exact ⟨h1,h2⟩
  refine _t (turn x b s' hlt hI) (fun r s2 hr=>?_) fun _ _ h'=>h';cases r with
  | done b'=>exact hr | yield b'=>exact ⟨x+1,hrest,hlt,hr⟩
 ·rintro b s' ⟨i,hr,hi,hI⟩;have:i=n:=by
   have:=_aC List.length hr;simp at this;omega
  subst this;exact fin _ _ hI
theorem z2T (l:Addr) (items:Array Value) (n:Nat) (dd:Option Addr) (sl:Array (Option Value)) (x:Value) (e:Value->Bool) (j:Nat) (hj:j<items.size) (hit:e items[j]=true) (hno:∀ m (hm:m<items.size),m<j->e items[m]=false): Meets (Builtin.«tuple.index» ⟨[.ref l,x],[]⟩) (fun A R s=>s.heap.get? l=some {cls:=.type "tuple",dict:=dd,data:=.seq items n,slots:=sl}/\(∀ y,y∈items->EqAt A.in1 s y x (e y))/\R (.ok (.ret (.int j s.toks))) {s with toks:=s.toks+1}):= .of_wp fun prog w A R s h=>by
  obtain ⟨hp,g,d,tk,os⟩:=s;obtain ⟨hl,he,h⟩:=h;have hm:min items.size items.size=items.size:=Nat.min_self _;wp_walk using _aE hl,z8S _ (fun i b s'=>b.1=none/\s'=⟨hp,g,d,tk,os⟩/\i<=j) _ _;case turn=>
   rintro i ⟨b1,b2⟩ s' hi ⟨hb,rfl,hij⟩;simp only at hb;subst hb;rw [hm] at hi;rw [Array.getElem?_eq_getElem hi];refine _a (he _ (Array.getElem_mem hi) prog w _ _ ?_);rcases Nat.lt_or_eq_of_le hij with lt | rfl
   ·rw [hno i hi lt];wp_walk;exact ⟨rfl,rfl,lt⟩
   ·rw [hit];wp_walk;exact ⟨_,rfl,h⟩
  case fin=>
   rintro ⟨b1,b2⟩ s' ⟨hb,rfl,hij⟩;rw [hm] at hij;omega
  case h=>exact ⟨rfl,rfl,_ae _⟩
end PySem
namespace L2
section
variable {X:Cx}{o e:Expr}{to:TE}{t:TA}{name:Str}{apos cpos:Pos}{id:String}{r:V->List V->Hp->VK->Prop}
theorem zh0(slot:Slot "tuple" name id)(hty:typeOf (.builtin id)=pure (.type "method_descriptor"))(hm:MtR X id r)(ho:PE X o to)(ha:PA X [e] t) (hbase:attributeBase o name X.env (eval o X.env)=eval o X.env:=by rfl) (hfew:((backTo cpos (starEach [e] X.env)).all (fun x=>!x.1)&&(backToKw cpos (keywordEach [] X.env)).all (fun x=>x.1.isSome) && decide ([e].length+([]:List Keyword).length+(if ([]:List Keyword).isEmpty then 0 else 1)<30))=true:=by rfl) (hline:(apos.endLine==cpos.line)=true:=by rfl)(hs:starEach [e] X.env=(false,eval e X.env)::starEach [] X.env:=by rfl)(hplain:(backTo cpos (starEach [] X.env)).any (·.1)=false:=by rfl): PE X (.Call (.Attribute o name apos) [e] [] cpos) (fun O H Q=>to O H fun x H1=>(∃ p vs,x=.ref p/\H1 p=some (.tup vs))/\t O H1 fun xs H2=>r x xs H2 Q):=by
 intro pins s O H Q I h;refine _bN hbase hfew hline rfl (thn (ho pins s O H _ I h) fun v s1 ⟨x,H1,I1,r1,ty,q1⟩=>?_);obtain ⟨p,vs,rfl,hp⟩:=ty;cases r1;obtain ⟨_,its,_,ob,e1,c1,d1,n,w1⟩:=I1.hok p _ hp;refine ⟨"tuple",id,PySem.F.plainAttrs_tuple,slot,hty,⟨ob,e1,c1⟩,fun a e=>?_,?_⟩
 ·cases e;exact ⟨ob,e1,d1⟩
 have hA:=ha cpos pins s1 O H1 _ I1 q1;rw [hs] at hA ⊢;refine _aS (by show (false||(backTo cpos (starEach [] X.env)).any (·.1))=false;rw [hplain]<;>rfl) (_a6 ?_);exact thn hA fun us s2 ⟨vs,H2,I2,r2,q2⟩=>hm pins s2 O H2 (.ref p) vs _ us Q I2 rfl r2 q2
theorem z0z:∀ {ns:List Int}{its:List Value},ym (ns.map V.int) its->IntsAre its ns
 | [],_,.nil=>.nil | n::ns,_,.cons r rs=>by
  obtain ⟨t,rfl⟩:=r;exact .cons n t (z0z rs)
def zkD:V->List V->Hp->VK->Prop:=fun x vs H Q=>∃ (p:Addr)(ns:List Int)(k:Int),x=.ref p/\vs=[.int k]/\H p=some (.tup (ns.map V.int))/\k∈ns/\Q (.int (ns.idxOf k:Nat)) H
theorem z7A:MtR X "tuple.index" zkD:=by
 intro pins s O H x vs v us Q I rx rv h;obtain ⟨p,ns,k,rfl,rfl,hp,hk,q⟩:=h;cases rx;obtain ⟨u,rfl,⟨t,rfl⟩⟩:=vals1 rv;obtain ⟨_,its,r,ob,e1,c1,d1,n,w1⟩:=I.hok p _ hp;have hi:=z0z r;have hlen:=hi.length;have hj:ns.idxOf k<ns.length:=List.idxOf_lt_length_iff.mpr hk;obtain ⟨cls,dd,data,sl⟩:=ob;simp only at c1 d1 w1;subst c1 d1 w1;refine _bZ PySem.F.slot_tuple_index ⟨_,e1,rfl⟩ PySem.F.entry_tuple_index (PySem.F.args_tuple_index_2 _ _) (z2T p its.toArray n _ sl (.int k t) (isInt k) (ns.idxOf k) (by simpa [hlen] using hj) ?_ ?_) ⟨e1,fun y hy=>(eq_isInt k t hi y (by simpa using hy)).at _ _,?_⟩
 ·show isInt k its[ns.idxOf k]=true;rw [isInt_at k hi _ (by omega) hj];simpa using _cy hj
 ·intro j hjs hlt;show isInt k its[j]=false;rw [isInt_at k hi j (by simpa using hjs) (by omega)];exact ne_of_lt_idxOf hlt _
 ·exact ⟨.int (ns.idxOf k:Nat),H,I.kept (fun b o e=>e),⟨s.toks,rfl⟩,q⟩
end
end L2
namespace Dd
open L2
section
variable {X:Cx}{E:XK}{o e:Expr}{pos:Pos}
def zdw(fo fv:FE):FE:=fun Z s=>(fo Z s).bind fun o s1=>match o with
 | .tup ds=>(fv Z s1).bind fun d s2=>match intsOf ds,d with
  | some ns,.int k=>if k∈ns then .ok (.int (ns.idxOf k:Nat)) s2 else .no | _,_=>.no
 | _=>.no
theorem z7y{apos:Pos}{fo fv:FE}(ho:RE X E o fo)(hv:RE X E e fv)(hbase:attributeBase o "index" X.env (eval o X.env)=eval o X.env:=by rfl) (hfew:((backTo pos (starEach [e] X.env)).all (fun x=>!x.1)&&(backToKw pos (keywordEach [] X.env)).all (fun x=>x.1.isSome) && decide ([e].length+([]:List Keyword).length+(if ([]:List Keyword).isEmpty then 0 else 1)<30))=true:=by rfl) (hline:(apos.endLine==pos.line)=true:=by rfl)(hs:starEach [e] X.env=(false,eval e X.env)::starEach [] X.env:=by rfl)(hplain:(backTo pos (starEach [] X.env)).any (·.1)=false:=by rfl): RE X E (.Call (.Attribute o "index" apos) [e] [] pos) (zdw fo fv):= zE (zh0 PySem.F.slot_tuple_index PySem.F.type_tuple_index z7A ho (yT hv ux hs) hbase hfew hline hs hplain) fun O H Q ⟨Y,Z,s,r,en,h⟩=>by
  unfold zdw at h;refine ⟨Y,Z,s,r,en,(okR.bind (Dn:=Den (gm X)) h).imp fun ov H1 ⟨Y1,s1,od,stp,dn,h1⟩=>?_⟩;cases od with
  | tup ds=>
   simp only at h1;have hty:∃ p vs,ov=.ref p/\H1 p=some (.tup vs):=by
    simp only [Den] at dn;obtain ⟨a,vs,rfl,e1,_⟩:=dn;exact ⟨a,vs,rfl,e1⟩
   refine ⟨hty,⟨Y1,Z,s1,stp.rep,en.mono stp,(okR.bind (Dn:=Den (gm X)) h1).imp fun v H2 ⟨Y2,s2,d,stp2,dn2,h2⟩=>?_⟩⟩;split at h2
   ·rename_i ns k ei;split at h2
    ·rename_i hk;have dov:=dn.mono stp2;simp only [Den] at dov;obtain ⟨a,vs,rfl,e1,e2⟩:=dov;rw [kc ei] at e2;cases ke e2;cases zQ dn2;exact ⟨a,ns,k,rfl,rfl,e1,hk,okR.here h2 stp2.rep yn⟩
    ·exact h2.elim
   ·exact h2.elim | _=>exact h1.elim
@[simp] theorem zgV (fo fv:FE)(Z:Ev)(s:Sto):zdw fo fv Z s=(fo Z s).bind fun o s1=>match o with
 | .tup ds=>(fv Z s1).bind fun d s2=>match intsOf ds,d with
  | some ns,.int k=>if k∈ns then .ok (.int (ns.idxOf k:Nat)) s2 else .no | _,_=>.no
 | _=>.no:=id rfl
end
def zfw(P:Program)(w:World)(K:W.Frag)(mg:Str->Option Value)(x:Str)(tb:List (Str×Str)):Prop:= ∃ a o es ep,mg x=some (.ref a)/\(a==sysModules)=false/\K.lookup a=some o/\o.ExactDict/\o.data=.dict es ep/\PySem.KeysOf (zG P w) es/\ (∀ k y,tb.lookup k=some y->∃ f,findBy (zG P w).is es (.inr k)=some (.ref f)/\mg y=some (.ref f))/\∀ k,tb.lookup k=none->findBy (zG P w).is es (.inr k)=none
theorem z5g{P:Program}{w:World}{k:Str}{u:Value}(r:yu (.str k) u):(zG P w).is (.inr k) u=true:=by
 obtain ⟨t,e⟩:=(show ∃ t,u=Value.str k t from r);subst e;exact z2p k t
section
variable {X:Cx}{E:XK}{e a b c:Expr}{es:List Expr}{pos:Pos}{CX:CXT}
theorem z7U{pins:List (Addr×Obj)}{O:L2.St}{H:Hp}{s:Shared}{o:Obj}{d:Addr}{en:Array DictEntry}{ep:Nat}(I:Inv X pins O H s)(hk:X.K.lookup d=some o)(hx:o.ExactDict)(hd:o.data=.dict en ep)(ks:PySem.KeysOf (zG X.prog X.w) en): s.heap.MapOf (zG X.prog X.w) d (fun k=>findBy (zG X.prog X.w).is en k):=⟨o,en,ep,I.kIn d o hk,hx,hd,ks,fun _=>rfl⟩
def zjf(tb:List (Str×Str))(f:FE):FE:=fun Z s=>(f Z s).bind fun d s1=>match d with
 | .str k=>match tb.lookup k with | some y=>.ok (.fn y) s1 | none=>.no
 | _=>.no
theorem zjE{x:Str}{p:Pos}{tb:List (Str×Str)}{f:FE}(hT:zfw X.prog X.w X.K X.mg x tb)(hg:Gl X x)(he:RE X E e f)(hs:z7m e)(hdb:(x==("__debug__":Str))=false:=by decide): RE X E (.Subscript (.Name x p) e pos) (zjf tb f):=by
 obtain ⟨d,o,en,ep,hm,hsm,hk,hx,hd,ks,h1,h2⟩:=hT;refine zE (zhJ (r:=fun v y H Q=>v=.ref d/\∃ k g,y=.str k/\findBy (zG X.prog X.w).is en (.inr k)=some (.ref g)/\Q (.ref g) H) ?_ (z4A hg hm (show yu (.ref d) (.ref d) from rfl) hdb) he hs) fun O H Q ⟨Y,Z,s,r,en',h⟩=>?_
 ·intro value slice pins s O H v y u u2 Q I rx ry h hs2;obtain ⟨rfl,k,g,rfl,hf,q⟩:=h;cases rx;have mp:=z7U I hk hx hd ks;exact _bM (x:=.ref g) mp.typeIs PySem.F.slot_dict_getitem.lookup (wpAny_getItem_of (Q:=fun r s'=>r=.ref g/\EP X pins O Q r s') (z5g ry) mp hf ⟨rfl,.ref g,H,I.tok _,rfl,q⟩) hs2
 ·unfold zjf at h;refine ⟨Y,Z,s,r,en',(okR.bind (Dn:=Den (gm X)) h).imp fun v H1 ⟨Y1,s1,dd,stp,dn,q⟩=>?_⟩;split at q
  ·rename_i k;split at q
   ·rename_i y hy;obtain ⟨g,e1,e2⟩:=h1 k y hy;cases uG dn;exact ⟨rfl,k,g,rfl,e1,okR.here (b:=V.ref g) q stp.rep (by simp only [Den];exact ⟨g,rfl,e2⟩)⟩
   ·exact q.elim
  ·exact q.elim
def z8p(tb:List (Str×Str))(neg:Bool)(f:FE):FE:=fun Z s=>(f Z s).bind fun d s1=>match d with
 | .str k=>.ok (.bl (xor neg (tb.lookup k).isSome)) s1 | _=>.no
theorem zg7{x:Str}{p:Pos}{tb:List (Str×Str)}{f:FE}(hT:zfw X.prog X.w X.K X.mg x tb)(hg:Gl X x)(he:RE X E e f)(hm':behindInMarks .In (.Name x p)=false:=by rfl)(hdb:(x==("__debug__":Str))=false:=by decide): RE X E (.Compare e [.In] [.Name x p] pos) (z8p tb false f):=by
 obtain ⟨d,o,en,ep,hm,hsm,hk,hx,hd,ks,h1,h2⟩:=hT;refine zE (zbv (r:=fun y v H Q=>v=.ref d/\∃ k,y=.str k/\Q (.bl (findBy (zG X.prog X.w).is en (.inr k)).isSome) H) ?_ he (z4A hg hm (show yu (.ref d) (.ref d) from rfl) hdb) hm') fun O H Q ⟨Y,Z,s,r,en',h⟩=>?_
 ·intro pins s O H y v u u2 Q I ry rx h;obtain ⟨rfl,k,rfl,q⟩:=h;cases rx;exact wpAny_in_of (z5g ry) hsm (z7U I hk hx hd ks) ⟨.bl _,H,I.tok _,rfl,q⟩
 ·unfold z8p at h;refine ⟨Y,Z,s,r,en',(okR.bind (Dn:=Den (gm X)) h).imp fun v H1 ⟨Y1,s1,dd,stp,dn,q⟩=>?_⟩;split at q
  ·rename_i k;cases uG dn;have e0:(findBy (zG X.prog X.w).is en (.inr k)).isSome=(tb.lookup k).isSome:=by cases z:tb.lookup k with
    | none=>rw [h2 k z];rfl | some y=>obtain ⟨g,e1,_⟩:=h1 k y z;rw [e1];rfl
   exact ⟨rfl,k,rfl,okR.here (b:=V.bl _) q stp.rep (by simp [Den,e0])⟩
  ·exact q.elim
def z88(i:Nat)(Ms:List (Str×Mir))(f:FA):FE:=fun Z s=>match Z[i]? with
 | some (some (.fn y))=>match Ms.lookup y with
  | some M=>(f Z s).bind fun xs s1=>M xs s1 | none=>.no
 | _=>.no
theorem zg6 (i:Nat) {x:Str} {p:Pos} {n:Nat} {Ms:List (Str×Mir)} {f:FA} (F:∀ y M,Ms.lookup y=some M->Has X.prog X.w X.K X.mg X.base CX y n M) (hr:z09 n X.A) (hxx:Passes CX X E) (ha:RA X E (e::es) f) (hN:X.N[i]? = some x:=by rfl) (hv:Vis X.env.scope x:=by first | exact Or.inl rfl | exact Or.inr (Or.inl rfl) | exact Or.inr (Or.inr rfl)) (hd:(x==("__debug__":Str))=false:=by decide) (hcd:(x==("__classdict__":Str))=false:=by decide) (he:starEach (e::es) X.env=(false,eval e X.env)::starEach es X.env:=by rfl) (hpl:(backTo pos (starEach es X.env)).any (·.1)=false:=by rfl):RE X E (.Call (.Name x p) (e::es) [] pos) (z88 i Ms f):=by
 intro pins s O H Q I ⟨Y,Z,st,r,en,h⟩;unfold z88 at h;split at h
 ·rename_i y hy;split at h
  ·rename_i M hM;obtain ⟨v,hv1,dv⟩:=en.at_ i (.fn y) hy;simp only [Den] at dv;obtain ⟨g,rfl,hmg⟩:=dv;obtain ⟨fa,fd,ps,Fk,hb,hk,hm⟩:=F y M hM;have e0:g=fa:=by rw [hmg] at hm;cases hm;rfl
   subst e0;refine _ax (thn (ze7 (pos:=p) hN hv hd hcd pins s O H (fun v H1=>v=.ref g/\H1=H) I ⟨.ref g,hv1,rfl,rfl⟩) fun u s1 ⟨v,H1,I1,r1,e1,e2⟩=>?_);subst e1 e2;cases r1;have hA:=ha pos pins s1 O H1 (fun vs H2=>zdV (gm X) M (vs++[]) H2 Q E) I1 (uL (k:=fun Z xs s1=>M xs s1) r en h _ fun vs H2 Y2 s2 ds r2 en2 dn2 stp2 h3=>by
    rw [_aP];exact ⟨Y2,s2,ds,r2,dn2,h3⟩);refine W.callWith_K (h₀:=X.base) I1.ok.mod.kin hk (thn hA fun us s2 ⟨vs,H2,I2,r2,q⟩=>⟨I2.kIn,?_⟩) he hpl;exact zbZ Fk hr hb .nil hxx I2 r2 q
  ·exact h.elim
 ·exact h.elim
@[simp] theorem zkJ (tb:List (Str×Str))(f:FE)(Z:Ev)(s:Sto):zjf tb f Z s=(f Z s).bind fun d s1=>match d with
 | .str k=>match tb.lookup k with | some y=>.ok (.fn y) s1 | none=>.no
 | _=>.no:=id rfl
@[simp] theorem zjg (tb:List (Str×Str))(neg:Bool)(f:FE)(Z:Ev)(s:Sto):z8p tb neg f Z s=(f Z s).bind fun d s1=>match d with
 | .str k=>.ok (.bl (xor neg (tb.lookup k).isSome)) s1 | _=>.no:=id rfl
@[simp] theorem zd3 (i:Nat)(Ms:List (Str×Mir))(f:FA)(Z:Ev)(s:Sto):z88 i Ms f Z s=match Z[i]? with
 | some (some (.fn y))=>match Ms.lookup y with
  | some M=>(f Z s).bind fun xs s1=>M xs s1 | none=>.no
 | _=>.no:=id rfl
end
theorem xr.cut{mg:Gm}{H H1:Hp}{Y Y1:List Addr}{s1:Sto}(stp:xr mg H Y H1 Y1 s1):xr mg H Y H1 (Y1.take Y.length) (s1.take Y.length):=by
 have fl:∀ {ds:List D}{ws:List V},D.flat.flats ds=true->zq mg H1 Y1 ds ws->zq mg H1 (Y1.take Y.length) ds ws:=fun f h=>h.flatten (fun _ _ h _ _=>h) f;refine ⟨⟨by simp [stp.rep.len],stp.rep.nd.sublist (_cK _ _),fun j ys h=>?_,fun ys h=>stp.rep.flat ys (List.mem_of_mem_take h)⟩,?_,stp.keep,fun c h1 h2=>stp.new c (List.mem_of_mem_take h1) h2,stp.mt⟩
 ·have hj:j<Y.length:=by
   have:=(_b.mp h).1;simp at this;omega
  rw [_bw hj] at h ⊢;obtain ⟨c,q1,q2⟩:=stp.rep.cell j ys h;exact ⟨c,q1,q2.flatten (fun _ _ h _ _=>h) (stp.rep.flat _ (_A h)) rfl⟩
 ·obtain ⟨t,ht⟩:=stp.pre;exact ⟨[],by rw [<- ht,List.take_append];simp⟩
def zkT(n:Nat):R D->R D
 | .ok (.loc l) s1=>match s1[l]? with
  | some xs=>if n<=l then .ok (.lst xs) (s1.take n) else .no | none=>.no
 | .ok _ _=>.no | .ex c s1=>.ex c s1 | .no=>.no
@[simp] theorem zji {s:Sto}{xs:List D}:zkT s.length (.ok (.loc s.length) (s++[xs]))=.ok (.lst xs) s:=by simp [zkT]
def z8L(n:Nat):R D->R D
 | .ok (.loc l) s1=>if l<n then .ok (.loc l) (s1.take n) else .ok (.loc l) s1 | .ok d s1=>if d.flat=true then .ok d (s1.take n) else .ok d s1 | r=>r
def z7C(M:Mir):Mir:=fun ds s=>z8L s.length (M ds s)
theorem zfb{mg:Gm}{M:Mir}{vs:List V}{H:Hp}{Q:VK}{E:XK}(h:zdV mg (z7C M) vs H Q E):zdV mg M vs H Q E:=by
 obtain ⟨Y,s,ds,r,dn,h⟩:=h;refine ⟨Y,s,ds,r,dn,?_⟩;unfold z7C z8L at h;split at h
 ·rename_i l s1 e;rw [e];split at h
  ·rename_i hl;intro v H1 Y1 stp dv;rw [<- r.len] at h;refine h v H1 _ stp.cut ?_;simp only [Den] at dv ⊢;obtain ⟨a,rfl,e1,ka⟩:=dv;exact ⟨a,rfl,by rw [_bw (by rw [r.len];exact hl)];exact e1,ka⟩
  ·exact h
 ·rename_i d s1 hn e;rw [e];split at h
  ·rename_i hf;intro v H1 Y1 stp dv;rw [<- r.len] at h;exact h v H1 _ stp.cut (dv.flatten (fun _ _ h _ _=>h) hf)
  ·exact h
 ·exact h
section
variable {P:Program}{w:World}{K:W.Frag}{mg:Str->Option Value}{base:Heap}
theorem Has.tidy{CX:CXT}{x:Str}{n:Nat}{M:Mir}(h:Has P w K mg base CX x n M):Has P w K mg base CX x n (z7C M):=by
 obtain ⟨f,fd,ps,F,r⟩:=h;exact ⟨f,fd,ps,F.imp fun vs H Q E h=>zfb h,r⟩
end
@[simp] theorem zaB (M:Mir)(ds:List D)(s:Sto):z7C M ds s=z8L s.length (M ds s):=id rfl
@[simp] theorem z3s {d:D}{n:Nat}{s1:Sto}(h:d.flat=true):z8L n (.ok d s1)=.ok d (s1.take n):=by cases d<;>first | (simp [D.flat] at h;done) | simp_all [z8L]
theorem zq.flat_rep{mg:Gm}{H:Hp}{Y:List Addr}{xs:List D}{vs:List V}(h:zq mg H Y xs vs):∀ k:Nat,zq mg H Y (List.replicate k xs).flatten (List.replicate k vs).flatten
 | 0=>by simpa using zq.nil | k+1=>by
  rw [_ao,_ao,_a7,_a7];exact h.append (h.flat_rep k)
section
variable {X:Cx}{E:XK}{e a b c:Expr}{es:List Expr}{pos:Pos}{CX:CXT}
theorem zfq{x:Str}{p:Pos}{n:Nat}{M:Mir}(F:Has X.prog X.w X.K X.mg X.base CX x n M)(hr:z09 n X.A)(hx:Passes CX X E)(hg:Gl X x)(hdb:(x==("__debug__":Str))=false:=by decide):RE X E (.Call (.Name x p) [] [] pos) (zg M zi):=by
 obtain ⟨fa,fd,ps,F,hb,hk,hm⟩:=F;refine zE (zc8 F hr hg hm hk hb .nil hx hdb) fun O H Q ⟨Y,Z,s,r,en,h⟩=>?_;exact ⟨Y,s,[],r,zq.nil,h⟩
end
section
variable {P:Program}{w:World}{K:W.Frag}{mg:Str->Option Value}{base:Heap}{CX:CXT}{n:Nat}
def zbY:List DictEntry->List (Str×Value)
 | []=>[] | e::es=>match e.key with
  | .str k _=>(k,e.val)::zbY es | _=>zbY es
theorem z03 {P:Program} {w:World} {k:Str}:∀ {es:List DictEntry},findBy (zG P w).is es.toArray (.inr k)=(zbY es).lookup k
 | []=>by simp [findBy,zbY] | e::es=>by
  have ih:=z03 (P:=P) (w:=w) (k:=k) (es:=es);simp only [findBy,List.find?_toArray] at ih ⊢;rw [_a3];cases hk:e.key with
  | str y t=>
   simp only [zbY,hk,_Q];by_cases z:k=y
   ·subst z;simp [z1W]
   ·have:(zG P w).is (.inr k) (.str y t)=false:=by
     rw [z3c];cases q:z4z (.inr k) (.str y t) with
     | false=>rfl | true=>
      rcases yg q with ⟨i,u,h1,h2⟩ | ⟨x,u,h1,h2⟩;·cases h2
      ·cases h1;cases h2;exact absurd rfl z
    rw [this,show (k==y)=false from by simpa using z];exact ih | _=>
   have:(zG P w).is (.inr k) e.key=false:=by
    rw [z3c];cases q:z4z (.inr k) e.key with
    | false=>rfl | true=>
     rcases yg q with ⟨i,u,h1,h2⟩ | ⟨x,u,h1,h2⟩;·cases h1
     ·rw [hk] at h2;cases h2
   rw [hk] at this;simp only [zbY,hk,this];exact ih
theorem zck:∀ y M,([]:List (Str×Mir)).lookup y=some M->Has P w K mg base CX y n M:=fun y M h=>by simp at h
theorem kG{x:Str}{M0:Mir}{Ms:List (Str×Mir)}(h:Has P w K mg base CX x n M0)(hs:∀ y M,Ms.lookup y=some M->Has P w K mg base CX y n M):∀ y M,((x,M0)::Ms).lookup y=some M->Has P w K mg base CX y n M:=fun y M e=>by
 rw [_Q] at e;split at e
 ·rename_i hb;cases e;have:y=x:=by simpa using hb
  subst this;exact h
 ·exact hs y M e
end
def Sub(K:W.Frag)(h:Heap):Prop:=∀ p∈K,h.get? p.1=some p.2
theorem Sub.in_{K:W.Frag}{h:Heap}(s:Sub K h):K.In h:=fun a o e=>by induction K with
 | nil=>simp at e | cons p K ih=>
  obtain ⟨b,u⟩:=p;rw [_Q] at e;split at e
  ·rename_i hb;cases e;have:a=b:=by simpa using hb
   subst this;exact s (a,o) (by simp)
  ·exact ih (fun q hq=>s q (by simp [hq])) e
theorem z4e(h:Heap)(a:Addr):Sub (z6X h a) h:=fun p hp=>by
 unfold z6X at hp;split at hp
 ·rename_i o e;simp at hp;subst hp;exact e
 ·simp at hp
theorem Sub.app{K L:W.Frag}{h:Heap}(a:Sub K h)(b:Sub L h):Sub (K++L) h:=fun p hp=>(_V.mp hp).elim (a p) (b p)
theorem zeT(h:Heap)(ns:List Str):Sub (gat h ns) h:=by
 refine (z4e h _).app fun p hp=>?_;obtain ⟨x,_,hx⟩:=List.mem_flatMap.mp hp;unfold zkW at hx;split at hx
 ·rcases _V.mp hx with hx | hx;·exact z4e h _ p hx
  ·split at hx
   ·split at hx;·exact z4e h _ p hx
    ·simp at hx
   ·exact z4e h _ p hx
   ·simp at hx
 ·simp at hx
def zkL(K:W.Frag)(x:Str)(st:Stmt):Prop:=∃ f fd,W.nsIn K mainGlobals x=some (some (.ref f))/\Fun K x x st f fd
theorem dA(s:Stmt):dArgs s=z07 s:=by cases s<;>rfl
theorem dB(s:Stmt):zhG s=wV s:=by cases s<;>rfl
theorem dS(s:Stmt):ze3 s=ze s:=by cases s<;>rfl
theorem zfy{K:W.Frag}{x:Str}{st:Stmt}(h:zg9 K x=zjN x st):zkL K x st:=by
 unfold zg9 zjN at h;rw [dA,dB,dS] at h;split at h
 ·rename_i f hf;split at h
  ·rename_i oc od fd sl hl;simp only [_w,_bz] at h;obtain ⟨h1,h2,h3,h4,h5,h6,h7,h8,h9,h10,h11⟩:=h;obtain ⟨a1,a2,a3,a4,a5,a6,a7,a8,a9,a10,a11,a12,a13,a14,a15⟩:=fd;simp only at h1 h2 h3 h4 h5 h6 h7 h8 h9 h10;subst h1 h3 h4 h5 h6 h7 h8 h9;subst h2;exact ⟨f,_,hf,zis hl h10 h11⟩
  ·cases h
 ·cases h
theorem zcj{K:W.Frag}{x:Str}(h:zfx K x=true):W.nsIn K mainGlobals x=some none:=by
 unfold zfx at h;split at h;·rename_i e;exact e
 ·cases h
theorem zdA{K:W.Frag}{x:Str}{i:Int}(h:zgA K x=some i):∃ t,W.nsIn K mainGlobals x=some (some (.int i t)):=by
 unfold zgA at h;split at h;·rename_i j t e;cases h;exact ⟨t,e⟩
 ·cases h
theorem z7V{P:Program}{w:World}{K:W.Frag}{h:Heap}{mg:Str->Option Value}(X:K.In h)(G:h.Ns mainGlobals mg):∀ {es:List DictEntry}{tb:List (Str×Str)},z8K K es (tb.map (·.2))=tb.map (fun p=>(PyData.keyHash w.params p.1,some p.1,true))-> PySem.KeysOf (zG P w) es.toArray/\(∀ k y,tb.lookup k=some y->∃ f,(zbY es).lookup k=some (.ref f)/\mg y=some (.ref f))/\∀ k,tb.lookup k=none->(zbY es).lookup k=none
 | [],[],_=>⟨fun e he=>by simp at he,fun k y h=>by simp at h,fun k _=>by simp [zbY]⟩ | [],_::_,h=>by simp [z8K] at h | _::_,[],h=>by simp [z8K] at h | e::es,(k0,y0)::tb,h=>by
  simp only [_s,z8K,List.cons.injEq,_bz] at h;obtain ⟨⟨h1,h2,h3⟩,h4⟩:=h;obtain ⟨i1,i2,i3⟩:=z7V (P:=P) X G h4;obtain ⟨hh,kk,vv⟩:=e;simp only at h1 h2 h3;cases kk with
  | str ks t=>
   simp only [zbH,_w] at h2;subst h2;have hv:∃ f,vv=.ref f/\W.nsIn K mainGlobals y0=some (some (.ref f)):=by
    unfold sameRef at h3;split at h3
    ·rename_i f g e1;have:f=g:=by simpa using h3
     subst this;exact ⟨f,rfl,e1⟩
    ·cases h3
   obtain ⟨f,rfl,e1⟩:=hv;refine ⟨fun e he=>?_,fun k y hy=>?_,fun k hy=>?_⟩
   ·simp only [_df,_z] at he;rcases he with rfl | he;·exact ⟨.inr ks,z2p ks t,h1⟩
    ·exact i1 e (by simpa using he)
   ·simp only [zbY,_Q] at hy ⊢;by_cases z:k=ks
    ·subst z;simp at hy ⊢;subst hy;exact W.mg_of X G e1
    ·rw [show (k==ks)=false from by simpa using z] at hy ⊢;exact i2 k y hy
   ·simp only [zbY,_Q] at hy ⊢;by_cases z:k=ks;·subst z;simp at hy
    ·rw [show (k==ks)=false from by simpa using z] at hy ⊢;exact i3 k hy | _=>simp [zbH] at h2
theorem zf4{P:Program}{w:World}{K:W.Frag}{h:Heap}{mg:Str->Option Value}{x:Str}{tb:List (Str×Str)}(X:K.In h)(G:h.Ns mainGlobals mg)(e:zg1 K x (tb.map (·.2))=zjC w tb):zfw P w K mg x tb:=by
 unfold zg1 zjC at e;split at e
 ·rename_i a ha;split at e
  ·rename_i c d es ep sl hl;simp only [_w,_bz] at e;obtain ⟨e1,e2,e3,e4,e5⟩:=e;obtain ⟨i1,i2,i3⟩:=z7V (P:=P) X G e5;have hc:c=.type "dict":=by
    unfold z5J at e1;split at e1
    ·rename_i n;have:n="dict":=by simpa using e1
     rw [this]
    ·cases e1
   have hd:d=none:=by simpa using e2
   have hs:sl=#[]:=by
    have:sl.size=0:=by simpa using e3
    exact Array.eq_empty_of_size_eq_zero this
   have ea:es.toList.toArray=es:=by simp
   rw [ea] at i1;refine ⟨a,_,es,ep,W.mg_of X G ha,e4,hl,⟨hc,hd,hs⟩,rfl,i1,fun k y hy=>?_,fun k hy=>?_⟩;·rw [<- ea,z03];exact i2 k y hy
   ·rw [<- ea,z03];exact i3 k hy
  ·cases e
 ·cases e
def saysS(q:Ask)(w:World)(h:Heap):Prop:=∃ K:W.Frag,K.In h/\z9x q K=valS q w
theorem zeO(q:Ask)(w:World)(s:Shared)(e:obsS q s=valS q w):saysS q w s.heap:=⟨_,(zeT _ _).in_,e⟩
theorem z9a(q:Ask)(w:World)(h h':Heap)(x:saysS q w h)(k:∀ b o,h.get? b=some o->h'.get? b=some o):saysS q w h':=let ⟨K,a,b⟩:=x;⟨K,a.keeps k,b⟩
theorem z3I{α β:Type}{f g:α->β}:∀ {l:List α},l.map f=l.map g->∀ x∈l,f x=g x:=fun h x hx=>List.map_inj_left.mp h x hx
theorem zky{q:Ask}{w:World}{K:W.Frag}(e:z9x q K=valS q w)(x:Str)(st:Stmt)(hx:(x,st)∈q.fs):zkL K x st:=zfy (z3I (_aC Prod.fst e) (x,st) hx)
theorem zjR{q:Ask}{w:World}{K:W.Frag}(e:z9x q K=valS q w)(x:Str)(hx:x∈q.bs):W.nsIn K mainGlobals x=some none:=zcj (z3I (_aC (fun z=>z.2.1) e) x hx)
theorem zkE{q:Ask}{w:World}{K:W.Frag}(e:z9x q K=valS q w)(x:Str)(i:Int)(hx:(x,i)∈q.cs):∃ t,W.nsIn K mainGlobals x=some (some (.int i t)):=zdA (z3I (_aC (fun z=>z.2.2.1) e) (x,i) hx)
theorem zjz{P:Program}{q:Ask}{w:World}{K:W.Frag}{h:Heap}{mg:Str->Option Value}(X:K.In h)(G:h.Ns mainGlobals mg)(e:z9x q K=valS q w)(x:Str)(tb:List (Str×Str))(hx:(x,tb)∈q.ts):zfw P w K mg x tb:=zf4 X G (z3I (_aC (fun z=>z.2.2.2.1) e) (x,tb) hx)
theorem zbu{p q:Program}{loose:List Str}{Xt:Shared->Bool}{α:Type}{Yf:Shared->α}{Ya:World->α}{N:Nat}{g0:Bool}(row:String) (bo:∀ w:World,(W.fencedOpening treeTable p w N).map (fun s=>(s.heap,s.gens,s.drawn,s.toks))=some (W.boot_heap w.params,Array.mk [],W.boot_drawn,W.boot_toks)) (hf:∀ (w:World)(os:OsState),(W.topFrom treeTable p (w.withFollow row false) N ⟨W.boot_heap w.params,Array.mk [],W.boot_drawn,W.boot_toks,os⟩).map (fun s=>(W.openSeen q loose (importedModules p.main.body) Xt g0 s,Yf s))=some (W.openGood q loose,Ya (w.withFollow row false))) (ht:∀ (w:World)(os:OsState),(W.topFrom treeTable p (w.withFollow row true) N ⟨W.boot_heap w.params,Array.mk [],W.boot_drawn,W.boot_toks,os⟩).map (fun s=>(W.openSeen q loose (importedModules p.main.body) Xt g0 s,Yf s))=some (W.openGood q loose,Ya (w.withFollow row true))):W.LeftO p q loose Xt Yf Ya N g0:= W.LeftO.of_split row fun w=>by
  obtain ⟨⟨h,gs,d,k,os⟩,e,e'⟩:=_v.mp (bo w);obtain ⟨rfl,rfl,rfl,rfl⟩:h=W.boot_heap w.params/\gs=Array.mk []/\d=W.boot_drawn/\k=W.boot_toks:=by simpa only [_bz] using e'
  rw [e,_S,hf w os,ht w os]
theorem z5I{tb:String->Option Builtin}{p:Program}{w:World}{n₀:Nat}{ann:Option Value}:∀ {n:Nat}{s s':W.SharedT}{t:Thread},z2r tb p w n₀ ann n s t=some s'->W.topRun tb p w n₀ ann n s.abs t=some s'.abs
 | 0,_,_,_,h=>by cases h | n+1,s,s',t,h=>by
  unfold z2r at h;unfold W.topRun;cases he:W.through t with
  | true=>rw [he] at h;cases h;rfl | false=>
   rw [he] at h;cases hk:W.stepOk n₀ ann t with
   | false=>rw [hk] at h;cases h | true=>
    rw [hk] at h;cases hs:W.stepT (denote tb) p w s t with
    | none=>rw [hs] at h;cases h | some r=>obtain ⟨s₂,t₂⟩:=r;rw [hs] at h;rw [W.stepT_spec hs];exact z5I h
theorem z3d{p:Program}{w:World}{N:Nat}{h:Heap}{d:Drawn}{k:Nat}{os:OsState}{t0:W.BT}{m₀:Nat}{ann:Option Value}(ha:W.absHeap t0 m₀ h.life=h) (sz:(h.isNs mainGlobals&&(Array.mk []:Array GenState).size==0,h.objs.size,h.nsMap mainGlobals "__annotations__")=(true,m₀,ann)){α:Type}{f:Shared->α}{v:α} (hr:(z2r treeTable p w m₀ ann N ⟨t0,m₀,h.life,Array.mk [],d,k,os⟩ (W.topStub p)).map (fun sT=>(W.staticsOk (importedModules p.main.body) h sT.abs.heap&&W.namesBound p sT.abs.heap&&W.gensDone sT.abs&&W.laidKept h sT.abs.heap,f sT.abs))=some (true,v)): (W.topFrom treeTable p w N ⟨h,Array.mk [],d,k,os⟩).map f=some v:=by
 obtain ⟨sT,e1,e2⟩:=_v.mp hr;obtain ⟨e3,e4⟩:=Prod.mk.inj e2;obtain ⟨z1,z2,z3⟩:_/\_/\_:=by simpa only [_bz] using sz
 have r:=z5I e1;have a0:(⟨t0,m₀,h.life,Array.mk [],d,k,os⟩:W.SharedT).abs=⟨h,Array.mk [],d,k,os⟩:=by
  show (⟨W.absHeap t0 m₀ h.life,Array.mk [],d,k,os⟩:Shared)=_;rw [ha]
 rw [a0] at r;have t:W.topFrom treeTable p w N ⟨h,Array.mk [],d,k,os⟩=some sT.abs:=by
  unfold W.topFrom;dsimp only;rw [z1,z2,z3];dsimp only;rw [r];show (match (W.staticsOk (importedModules p.main.body) h sT.abs.heap&&W.namesBound p sT.abs.heap&&W.gensDone sT.abs&&W.laidKept h sT.abs.heap) with | true=>some sT.abs | false=>none)=_;rw [e3]
 rw [t,_S,e4]
theorem z6A{α β γ δ:Type}{r:Option α}{f:α->β}{g:α->γ}{k:α->δ}{x:β}{y:γ}{z:δ}(h1:r.map (fun s=>(f s,k s))=some (x,z))(h2:r.map g=some y):r.map (fun s=>(f s,(g s,k s)))=some (x,(y,z)):=by
 obtain ⟨s,e1,e2⟩:=_v.mp h1;obtain ⟨s',e3,e4⟩:=_v.mp h2;rw [e1] at e3;cases e3;obtain ⟨e5,e6⟩:=Prod.mk.inj e2;rw [e1,_S,e4,e5,e6]
theorem walkY{l:W.OpenLaw}{n k:Nat}{q:Program}{loose:List Str}{XP:(Str->Option Value)->Heap->Prop}{YP:World->Heap->Prop}{d:DefRec}{x:Str} (hn:l.most=some n)(hn2:n<=sizeLine)(hn3:n<=63)(hdf:d.params.defaults=[])(hr:z09 k callerA) (F:∀ (w:World)(mg:Str->Option Value)(fa:Addr)(h:Heap),YP w h->h.Ns mainGlobals mg->mg d.name=some (.ref fa)->XP mg h-> ∃ K:W.Frag,K.In h/\∃ fd:FuncData,(∀ (s:Shared)(u:Value),BindsTo s fd ⟨[u],[]⟩ [(x,u)])/\ ∀ base:Heap,K.In base->base.Ns mainGlobals mg->z4g l.prog w K mg base CX0 k fa fd [x] (zfV K)): W.WalkO q loose XP YP l.row.toRowW d [] (fun f vs=>PySem.call f vs):=by
 refine Att.z77 hn hdf fun w s₀ s₁ mg mb fa o pm cd doc a vs ns G Yy ho hd hcd hmg hobj hints hlen hg=>?_;obtain ⟨K,KX,fd,hb,hF⟩:=F w mg fa _ Yy G.T.g hmg G.X;exact zcW KX G.T.g G.T.b G.T.builtins G.T.nolimit hg hobj hints (_U hlen hn2) hr hF hb (fun H hO hS=>⟨a,ns,rfl,hO,hS,_U hlen hn3,fun _=>rfl⟩) fun H e s' z=>z
end Dd
namespace HT
end HT
namespace L2
end L2
namespace Dd
open L2
section
variable {X:Cx}{E:XK}{e:Expr}{pos p2 p3 p4:Pos}
theorem zq.rev{mg:Gm}{H:Hp}{Y:List Addr}:∀ {xs:List D}{vs:List V},zq mg H Y xs vs->zq mg H Y xs.reverse vs.reverse
 | [],vs,h=>by simp only [zq] at h;subst h;exact zq.nil | d::ds,vs,h=>by
  simp only [zq] at h;obtain ⟨v,r,rfl,h1,h2⟩:=h;rw [_ar,_ar];exact (zq.rev h2).append (.one h1)
end
section
variable {X:Cx}{E:XK}{e o a b c:Expr}{es:List Expr}{pos:Pos}
def z8J:D->D->Sto->R D
 | x,.int k,s=>match listOf s x with
  | some xs=>if xs.length*k.toNat<=cap/\-(2 ^ 62)<=k/\k<2 ^ 62/\D.flat.flats (List.replicate k.toNat xs).flatten=true then .ok (.loc s.length) (s++[(List.replicate k.toNat xs).flatten]) else .no | none=>.no
 | _,_,_=>.no
theorem zhg:∃ r,OpR X (binaryOp .Mult) r/\OpF X E r z8J:=by
 refine ⟨_,zhl,?_⟩;intro H Y s d1 d2 v1 v2 Q r h1 h2 h;unfold z8J at h;split at h
 ·rename_i k;cases zQ h2;split at h
  ·rename_i xs hx;split at h
   ·rename_i hl;obtain ⟨l,vs,e,q1,q2⟩:=zJ r hx h1;exact ⟨l,k,vs,e,rfl,q1,by omega,by omega,by rw [q2.length];exact uj hl.1,z9C r h hl.2.2.2 (q2.flat_rep _)⟩
   ·exact h.elim
  ·exact h.elim
 ·exact h.elim
def zl4(fo fv:FE):FE:=fun Z s=>(fo Z s).bind fun o s1=>match o with
 | .loc l=>(fv Z s1).bind fun d s2=>match s2[l]?,d with
  | some xs,.int i=>if 0<=i/\i<2 ^ 62 then (match xs[i.toNat]? with | some y=>.ok y (s2.set l (xs.eraseIdx i.toNat)) | none=>.no) else .no | _,_=>.no
 | _=>.no
def see(s:Sto):D->D
 | .loc l=>match s[l]? with | some xs=>.lst xs | none=>.loc l
 | d=>d
theorem Den.readsS{P:Program}{w:World}{mg:Gm}{H:Hp}{Y:List Addr}{h:Heap}{s:Sto}(ok:HOk P w H h)(rp:Rep mg H Y s){d:D}{v:V}{u:Value}(c:PyData.canLay0 (ki (see s d))=true)(dn:Den mg H Y d v)(r:yu v u):∃ as,Reads h u (ki (see s d)) as:=by
 by_cases hl:∃ l xs,d=.loc l/\s[l]? = some xs
 ·obtain ⟨l,xs,rfl,hx⟩:=hl;have e0:see s (.loc l)=.lst xs:=by simp [see,hx]
  rw [e0] at c ⊢;simp only [Den] at dn;obtain ⟨a,rfl,e1,ka⟩:=dn;cases r;obtain ⟨vs,q1,q2⟩:=rp.at_ hx e1 ka;obtain ⟨_,its,n,rv,e⟩:=ok a _ q1;obtain ⟨as,q⟩:=zq.reads ok (by simpa [ki,PyData.canLay0] using c) q2 rv;rw [ki];exact ⟨_,Reads.list e rfl rfl (by simpa using q)⟩
 ·have e0:see s d=d:=by cases d with
   | loc l=>
    simp only [see];split;·rename_i xs hx;exact absurd ⟨l,xs,rfl,hx⟩ hl
    ·rfl | _=>rfl
  rw [e0] at c ⊢;exact Den.reads ok c dn r
end
structure Fly(P:Program)(w:World)(outer:List Env)(H:Hp)(s:Shared)(C ea:Addr)(H':Hp)(s':Shared):Prop where
 os:s'.os=s.os
 bare:AllBare s'.gens
 un:Un (frs outer) [] H H' s.heap s'.heap
 hok:HOk P w H' s'.heap
 fly:∃ B a0,Heap.FlyingW B outer ea (.ref C) a0 s'.heap/\∀ b o,s'.heap.get? b=some o->(H' b≠none\/((∃ o',s.heap.get? b=some o')/\b∉frs outer))->B.get? b=some o
def CX1(P:Program)(w:World):CXT:=fun outer H s E e s'=>∃ C ea H',e=.ref ea/\Fly P w outer H s C ea H' s'/\E (.ref C) none H'
theorem z8s{env:Env}{l:List Env}{L:Addr}(h:env.frame=some L):frs (env::l)=L::frs l:=by unfold frs;rw [_bu,h]
theorem HOk.cov{P:Program}{w:World}{H:Hp}{h h' B:Heap}(x:HOk P w H h)(c:∀ b o,h.get? b=some o->H b≠none->B.get? b=some o)(k:B.StaysIn h'):HOk P w H h':=fun a o e=> (x a o e).stay (fun b u hb q=>by
  refine k b u (c b u q ?_);rcases hb with rfl | hb;·rw [e];simp
  ·rw [hb];simp) (fun _ q=>q) fun _ _ q=>q
theorem zcN{P:Program}{w:World}{H:Hp}{h:Heap}{a:Addr}{o:HO}(x:yj P w H h a o):∃ ob,h.get? a=some ob:=by cases o with
 | lst xs=>obtain ⟨_,_,_,_,e⟩:=x;exact ⟨_,e⟩ | tup xs=>obtain ⟨_,_,_,ob,e,_⟩:=x;exact ⟨_,e⟩ | dK kvs=>obtain ⟨_,_,_,_,o,_,_,e,_⟩:=x;exact ⟨_,e⟩ | dT kvs=>obtain ⟨_,_,_,_,o,_,_,e,_⟩:=x;exact ⟨_,e⟩ | set S n=>obtain ⟨o,_,_,_,e,_⟩:=x;exact ⟨_,e⟩ | ins C dx fs=>obtain ⟨_,_,_,e,_⟩:=x;exact ⟨_,e⟩ | own y=>exact x | xd fs=>obtain ⟨_,⟨_,_,_,e,_⟩,_⟩:=x;exact ⟨_,e⟩ | rng lo hi=>obtain ⟨_,_,_,e⟩:=x;exact ⟨_,e⟩ | frz ob u=>obtain ⟨e,_⟩:=x;exact ⟨_,e⟩ | tbl ps=>exact ⟨_,(show h.get? a=some _ from x)⟩ | met f y=>exact ⟨_,(show h.get? a=some _ from x)⟩ | ext φ=>obtain ⟨_,e,_⟩:=x;exact e
section
variable {X:Cx}{E:XK}{pins:List (Addr×Obj)}{O:L2.St}{H:Hp}{s:Shared}
theorem Inv.left{outer:List Env}{h' B:Heap}{C ea:Addr}{a0:Value}(I:Inv X pins O H s)(hex:X.ex=[])(ho:X.outer=outer)(fl:Heap.FlyingW B outer ea (.ref C) a0 h')(sm:s.heap.UpToSlots h') (c:∀ b o,s.heap.get? b=some o->(H b≠none\/((∃ o',X.s₀.heap.get? b=some o')/\b∉frs outer))->B.get? b=some o){g:Array GenState}{d:Drawn}{t:Nat}(hg:AllBare g): Fly X.prog X.w outer X.H₀ X.s₀ C ea H ⟨h',g,d,t,s.os⟩:=by
 subst ho;have k:=fl.1;refine ⟨I.os,hg,⟨fun b o e n nf ne=>?_,fun b o e n hf ne=>?_,fun b o e n ne=>?_,fun b o e ne=>?_,I.base.tups,I.base.frzs,I.base.tbls⟩,HOk.cov I.hok (fun b o e n=>c b o e (.inl n)) k,B,a0,fl,fun b o e q=>?_⟩
 ·have e1:=I.base.keep b o e n nf (by rw [hex];exact ne);exact k b o (c b o e1 (.inr ⟨⟨o,e⟩,nf⟩))
 ·obtain ⟨sl,e1⟩:=I.base.slot b o e n hf (by rw [hex];exact ne);obtain ⟨_,o2,e2,hnf⟩:=I.funs.mem hf;rw [e1] at e2;cases e2;obtain ⟨sl2,e3⟩:=sm b _ e1 hnf;exact ⟨sl2,e3⟩
 ·exact I.base.free b o e n (by rw [hex];exact ne)
 ·by_cases hf:b∈frs X.outer
  ·obtain ⟨_,o2,e2,hnf⟩:=I.funs.mem hf;obtain ⟨sl2,e3⟩:=sm b _ e2 hnf;exact ⟨_,e3⟩
  ·obtain ⟨o1,e1⟩:=I.base.there b o e (by rw [hex];exact ne);exact ⟨o1,k b o1 (c b o1 e1 (.inr ⟨⟨o,e⟩,hf⟩))⟩
 ·have back:∀ o1,s.heap.get? b=some o1->B.get? b=some o:=fun o1 e1=>by
   have e2:=c b o1 e1 (q.imp id fun z=>z);have e3:h'.get? b=some o1:=k b o1 e2;have:h'.get? b=some o:=e;rw [e3] at this;cases this;exact e2
  rcases q with q | ⟨⟨o',e'⟩,nf⟩;·cases z:H b with
   | none=>exact absurd z q | some u=>
    obtain ⟨o1,e1⟩:∃ o1,s.heap.get? b=some o1:=by exact zcN (I.hok b u z)
    exact back o1 e1
  ·obtain ⟨o1,e1⟩:=I.base.there b o' e' (by rw [hex];simp);exact back o1 e1
end
section
variable {P:Program}{w:World}{K:W.Frag}{mg:Str->Option Value}{base:Heap}{N:List Str}{qual:Str}{scope:Scope}{f:Addr}{cd:Value}{A:Around}{outer:List Env}{s:Shared}{H:Hp}{E:XK}
theorem vH:(envOfC qual scope s.heap.objs.size f cd).frame=some s.heap.objs.size:=rfl
theorem zda:Passes (CX1 P w) (z25 (CX1 P w) P w K mg base N qual scope f cd A outer s H E) E:=by
 intro pins O H1 s1 e s' I h;obtain ⟨C,ea,H',he,fl,hE⟩:=h;subst he;obtain ⟨h2,g2,d2,t2,os2⟩:=s';have eos:os2=s1.os:=fl.os;subst eos;have I':=I.call (h':=h2) (g':=g2) (d':=d2) (t':=t2) (ch:=[]) fl.un fl.hok fl.bare (fun b z=>absurd z (by simp));obtain ⟨B,a0,fw,cov⟩:=fl.fly;refine wpAny_leaves_onW (base:=B) (outer:=outer) I.ok.frames vH fw fun h' fw' sm=>?_;refine ⟨C,ea,H',rfl,Inv.left I' rfl rfl fw' sm (fun b o e q=>cov b o e (q.imp id fun z=>?_)) I'.bare,hE⟩;obtain ⟨⟨o',e'⟩,nf⟩:=z;obtain ⟨o1,e1⟩:=I.base.there b o' e' (by show b∉([]:List Addr);simp);refine ⟨⟨o1,e1⟩,fun z=>?_⟩;rw [show (z25 (CX1 P w) P w K mg base N qual scope f cd A outer s H E).stack=envOfC qual scope s.heap.objs.size f cd::outer from rfl,z8s vH] at z;rcases _z.mp z with z | z
 ·have:=_l e';rw [z] at this;exact absurd this (_am _)
 ·exact nf z
theorem zi3 {pins:List (Addr×Obj)} {O:L2.St} {H1:Hp} {s1:Shared} {h':Heap} {e C:Addr} {args:List Value} (I:Inv (z25 (CX1 P w) P w K mg base N qual scope f cd A outer s H E) pins O H1 s1) (hx:Heap.MadeExcOf s1.heap h' e (.ref C) args) (hE:E (.ref C) none H1): (z25 (CX1 P w) P w K mg base N qual scope f cd A outer s H E).xe (.ref e) {s1 with heap:=h'}:=by
 have hin:∀ env∈(envOfC qual scope s.heap.objs.size f cd::outer),∀ b,env.frame=some b->b∈frs (envOfC qual scope s.heap.objs.size f cd::outer):=fun env he b hb=>_bD.mpr ⟨env,he,hb⟩;refine wpAny_leaves_madeW (base:=W.hideAll s1.heap (frs (envOfC qual scope s.heap.objs.size f cd::outer))) (h:=s1.heap) (outer:=outer) I.ok.frames vH (fun b o q=>W.of_hideAll _ q) (W.funFrames_hide I.stack hin) hx fun h'' t fw tup bt sm=>?_;refine ⟨C,e,H1,rfl,Inv.left I rfl rfl fw ((Heap.UpToSlots.of_keeps hx.keeps).trans sm) (fun b o eb q=>W.hideAll_get _ eb fun z=>?_) I.bare,hE⟩;rcases q with q | ⟨⟨o',e'⟩,nf⟩;·exact q (I.stkFree b z)
 ·rw [z8s vH] at z;rcases _z.mp z with z | z
  ·have:=_l e';rw [show (z25 (CX1 P w) P w K mg base N qual scope f cd A outer s H E).s₀=s from rfl] at this;rw [z] at this;exact absurd this (_am _)
  ·exact nf z
end
def za6 (X:Cx) (E:XK):Prop:=∀ (pins:List (Addr×Obj)) (O:L2.St) (H1:Hp) (s1:Shared) (h':Heap) (e C:Addr) (args:List Value),Inv X pins O H1 s1->Heap.MadeExcOf s1.heap h' e (.ref C) args->E (.ref C) none H1->X.xe (.ref e) {s1 with heap:=h'}
def zdJ(K:W.Frag)(mg:Str->Option Value)(x:Str):Prop:=∃ C,mg x=some (.ref C)/\W.excIn K C bmV "ValueError.__new__"=true
theorem zbI{K:W.Frag}{h₀:Heap}{C:Addr}{bmB:List Value}{newId:String}(X:K.In h₀)(q:W.excIn K C bmB newId=true): ∃ bm N nm q bs hdct sn sub ab col dd k0 k1 k2 k3 k5 mN,h₀.get? C=some (excClassObj nm q C N bs bm hdct sn sub ab col dd k0 k1 k2 k3 k5 newId)/\h₀.Ns N mN/\mN "__init__"=none/\OwnTail h₀ bmB bm:=by
 unfold W.excIn at q;split at q
 ·rename_i dd cd sl ho;split at q
  ·rename_i C' bm k0 k1 k2 k3 n k5 hm hs;simp only [_E,_ay,Bool.not_eq_true'] at q;obtain ⟨⟨⟨⟨⟨rfl,rfl⟩,hdel⟩,ht⟩,hok⟩,hni⟩:=q;obtain ⟨nm,bs,mro,ns,qn,hd,sn,sub,ab,col,del⟩:=cd;dsimp only at hm hdel hok hni;subst hm hdel;have hsl:sl=#[k0,k1,k2,k3,some (.builtin n),k5]:=by
    obtain ⟨l⟩:=sl;simp only at hs;rw [hs]
   subst hsl;exact ⟨bm,ns,nm,qn,bs,hd,sn,sub,ab,col,dd,k0,k1,k2,k3,k5,_,X _ _ ho,.of_isNs (W.isNs_of_in X hok),W.nsMap_none_of_in X hok hni,W.tail_of_in X ht⟩
  ·cases q
 ·cases q
section
variable {X:Cx}{E:XK}{pos:Pos}
def z5Y(c:Str):FS:=fun _ s=>.ex c s
theorem z6G {x:Str} {np cpos p:Pos} {m:Str} {j:Nat} (hk:zdJ X.K X.mg x) (hro:za6 X E) (hc:X.calm=true) (hg:Gl X x) (hd:(x==("__debug__":Str))=false:=by decide): RS X E (.Raise (some (.Call (.Name x np) [.Constant (.str m) j p] [] cpos)) none pos) (z5Y x):=by
 intro pins s O H D I h;obtain ⟨Y,Z,st,r,en,h⟩:=h;obtain ⟨C,hm,hq⟩:=hk;have hE:E (.ref C) none H:=h H Y C (xr.refl r) hm;obtain ⟨tl,Nn,nm,q,bs,hdct,sn,sub,ab,col,dd,k0,k1,k2,k3,k5,mN,hC,hN,hni,T⟩:=zbI I.mod.kin hq;refine wpAny_Raise_call_subT (C:=C) (nm:=nm) (q:=q) (N:=Nn) (bs:=bs) (bm:=tl) (hdct:=hdct) (sn:=sn) (sub:=sub) (ab:=ab) (col:=col) (dd:=dd) (k0:=k0) (k1:=k1) (k2:=k2) (k3:=k3) (k5:=k5) _bq (mN:=mN) (T.hasType _bq.hasBase) (I.ok.hd hc) rfl hni (z0v I hg hm ⟨rfl,?_⟩ hd);refine _a6 (thn (yT (X:=X) (zeb (X:=X)) (ux (X:=X)) rfl cpos pins s O H (fun vs H1=>vs=[.str m]/\H1=H) I ⟨rfl,rfl⟩) fun us s2 h2=>?_);obtain ⟨vs,H1,I1,r1,e1,e2⟩:=h2;subst e1 e2;obtain ⟨u,rfl,ru⟩:=r1.one;exact ⟨rfl,by show (1:Nat)<=sizeLine;decide,I1.bk _ _ hC,hN.keeps I1.bk,T.keeps I1.bk,fun h' e mk=>hro pins O _ s2 h' e C [u] I1 mk hE⟩
end
def z3E(N:List Str)(n:Nat)(fs:FS):Mir:=fun ds s=>if ds.length=n then (match fs (zt N ds) s with
 | .ok (.rt d) s'=>.ok d s' | .ok (.nx _) s'=>.ok .non s' | .ex c s'=>.ex c s' | _=>.no) else .no
section
variable {P:Program}{w:World}{K:W.Frag}{mg:Str->Option Value}{base:Heap}
theorem zft{X:Cx}{E:XK}:Passes CX0 X E:=fun _ _ _ _ _ _ _ h=>h.elim
theorem z1S{x qual:Str}{st:Stmt}{f:Addr}{fd:FuncData}{N ps:List Str}{k n:Nat}{fs:FS}(F:Fun K x qual st f fd)(hm:mg x=some (.ref f))(hb:Binds K fd ps [])(S:zr N ps (ze st))(hn:ps.length=n) (body:∀ (cdv:Value)(A:Around)(outer:List Env)(s:Shared)(H:Hp)(E:XK),z09 k (A.deeper (envOfC qual (ze st) s.heap.objs.size f cdv))->(z25 (CX1 P w) P w K mg base N qual (ze st) f cdv A outer s H E).calm=true-> RSs (z25 (CX1 P w) P w K mg base N qual (ze st) f cdv A outer s H E) E (wV st) fs):Has P w K mg base (CX1 P w) x (k+1) (z3E N n fs):=by
 subst hn;obtain ⟨oc,od,kV,doc,pm,an,cdv,ct,osl,rfl,lk,hcd⟩:=F.ex;refine ⟨f,_,ps,zgS lk hcd S (fun vs H Q E h=>?_) (fun A outer s H vs Q E hr h=>?_),hb,F.kp,hm⟩
 ·obtain ⟨Y,s,ds,_,dn,h⟩:=h;unfold z3E at h;split at h;·rename_i e;rw [dn.length];exact e
  ·exact h.elim
 ·obtain ⟨Y,st0,ds,r,dn,h⟩:=h;refine ⟨_,body cdv A outer s H E hr (by show A.handled.isNone=true;rw [show A.handled=none from hr.hd];rfl),Y,zt N ds,st0,r,ji dn,?_⟩;unfold z3E at h;split at h
  ·split at h
   ·rename_i d s' e;rw [e];intro fv H' Y' stp fd;cases fv with
    | rt v=>exact h v H' Y' stp fd | _=>exact (show False from fd).elim
   ·rename_i Z s' e;rw [e];intro fv H' Y' stp fd;cases fv with
    | nx v=>exact h .non H' Y' stp (by simp [Den]) | _=>exact (show False from fd).elim
   ·rename_i c s' e;rw [e];exact h
   ·exact h.elim
  ·exact h.elim
def zm5(M:Mir):Mir:=fun ds s=>match M ds s with | .ex _ _=>.no | r=>r
end
def z2Y(f:FS):FS:=fun Z s=>match f Z s with | .ex _ _=>.no | r=>r
theorem z5x{X:Cx}{E:XK}{st:Stmt}{f:FS}(h:RS X.nox E0 st f):RS X E st (z2Y f):=fun pins s O H D I hw=>by
 obtain ⟨Y,Z,st0,r,en,q⟩:=hw;have q':okR (gm X) E0 H Y (FlD (gm X)) (f Z st0) (z3w D):=by
  unfold z2Y at q;cases e:f Z st0 with
  | ok d s'=>rw [e] at q;exact q | ex c s'=>rw [e] at q;exact q.elim | no=>rw [e] at q;exact q.elim
 exact _t (h pins s O H D (I.wish _) ⟨Y,Z,st0,r,en,q'⟩) (fun _ _ q=>q.unwish) fun _ _ z=>False.elim z
@[simp] theorem zfJ (f:FS)(Z:Ev)(s:Sto):z2Y f Z s=(match f Z s with | .ex _ _=>.no | r=>r):=id rfl
@[simp] theorem zjh (c:Str)(Z:Ev)(s:Sto):z5Y c Z s=.ex c s:=id rfl
theorem z4f{P:Program}{w:World}{K:W.Frag}{mg:Str->Option Value}{base:Heap}{N:List Str}{qual:Str}{scope:Scope}{f:Addr}{cd:Value}{A:Around}{outer:List Env}{s:Shared}{H:Hp}{E:XK}: za6 (z25 (CX1 P w) P w K mg base N qual scope f cd A outer s H E) E:=fun _ _ _ _ _ _ _ _ I hx hE=>zi3 I hx hE
end Dd
namespace PySem
open PySem.Sem (wp)
section
variable {M:Model}{A:Around}{E:Value->Shared->Prop}
theorem uZ{h:Heap}{g:Array GenState}{d:Drawn}{t:Nat}{os:OsState}{e C D:Addr}{oe:Obj}{Q:Bool->Shared->Prop} {nm q:Str}{N:Addr}{bs bm:List Value}{hdct:Bool}{sn:List Str}{sub:List Value}{ab:Bool}{col:Option Bool}{dd:Option Addr}{k0 k1 k2 k3 k5:Option Value}{newId:String} {nm' q':Str}{N':Addr}{bs' bm':List Value}{hdct':Bool}{sn':List Str}{sub':List Value}{ab':Bool}{col':Option Bool}{dd':Option Addr}{k0' k1' k2' k3' k5':Option Value}{newId':String} (hC:h.get? C=some (excClassObj nm q C N bs bm hdct sn sub ab col dd k0 k1 k2 k3 k5 newId))(hD:h.get? D=some (excClassObj nm' q' D N' bs' bm' hdct' sn' sub' ab' col' dd' k0' k1' k2' k3' k5' newId')) (he:h.get? e=some oe)(hcls:oe.cls=.ref C)(hbase:bm'.contains (.type "BaseException")=true)(hsub:(Value.ref C::bm).contains (.ref D)=true) (hq:Q true ⟨h,g,d,t,os⟩):wpAny M A (excMatches (.ref e) (.ref D)) Q E ⟨h,g,d,t,os⟩:=by
 have hcB:(Value.ref D::bm').contains (.type "BaseException")=true:=by rw [List.contains_cons,hbase,Bool.or_true]
 have f:=tc_notTuple;unfold excMatches;repeat (first | (with_reducible refine _as he ?_;rw [hcls]) | with_reducible refine _as hD ?_ | with_reducible refine _as hC ?_ | (with_reducible refine wpAny_isSubtype_exc hD ?_;rw [hcB]) | (with_reducible refine wpAny_isSubtype_exc hC ?_;rw [hsub]) | wp_step)
 exact hq
end
end PySem
namespace Dd
open L2
theorem _root_.L2.Inv.locals{X:Cx}{pins:List (Addr×Obj)}{O:L2.St}{H:Hp}{s:Shared}{h':Heap}{m':Str->Option Value}{t:Nat}(I:L2.Inv X pins O H s)(hn:h'.Ns X.env.locals m')(sb:Heap.SameBut X.env.locals s.heap h'): L2.Inv X pins (List.replicate X.N.length none) H {s with heap:=h',toks:=t}:=by
 have k:∀ b o,b≠X.env.locals->s.heap.get? b=some o->h'.get? b=some o:=fun b o n e=>sb.extBut _ _ n e;have neL:∀ b o,X.s₀.heap.get? b=some o->b≠X.env.locals:=fun b o e=>_x (_r (_l e) I.ok.above);refine ⟨I.ok,I.os,I.bare,⟨fun b o e n nf ne=>k b o (neL b o e) (I.base.keep b o e n nf ne),fun b o e n hf ne=>?_,I.base.free,fun b o e ne=>?_,I.base.tups,I.base.frzs,I.base.tbls⟩,⟨m',hn,fun i x v h1 h2=>?_⟩,fun x c e=>?_,I.free,I.freeC,fun p hp=>?_,fun a o e=>?_,by simp⟩
 ·obtain ⟨sl,e1⟩:=I.base.slot b o e n hf ne;exact ⟨sl,k b _ (neL b o e) e1⟩
 ·obtain ⟨o1,e1⟩:=I.base.there b o e ne;exact ⟨o1,k b _ (neL b o e) e1⟩
 ·rw [_be] at h2;split at h2<;>cases h2
 ·obtain ⟨v,o,ho,hd⟩:=I.cell x c e;exact ⟨v,o,k c o (I.cne x c e) ho,hd⟩
 ·obtain ⟨q1,q2,q3,q4⟩:=I.pin p hp;exact ⟨k p.1 p.2 q3 q1,q2,q3,q4⟩
 ·refine (I.hok a o e).stay (fun b u hb q=>k b u (fun z=>?_) q) (fun _ q=>q) fun _ _ q=>q;have:=I.free;rw [<- z] at this;rcases hb with rfl | hb;·rw [e] at this;cases this
  ·rw [hb] at this;cases this
abbrev Cx.at_(X:Cx)(pn:List (Addr×Obj))(xe:Value->Shared->Prop):Cx:={X with pn:=pn,xe:=xe}
abbrev Cx.mk_(X:Cx)(e:Addr)(pn:List (Addr×Obj)):Cx:={X with A:=X.A.mark (some (.ref e)),calm:=false,pn:=pn,xe:=fun _ _=>False}
theorem Cx.ok_at{X:Cx}(ok:X.Ok){pn:List (Addr×Obj)}{xe:Value->Shared->Prop}:(Cx.at_ X pn xe).Ok:= ⟨ok.mod,ok.kind,ok.glob,ok.blt,ok.above,ok.inj,ok.has,ok.cab,ok.hd,ok.frames,ok.stk,ok.exf,ok.bs,ok.bsz,ok.noex,ok.exfs,ok.funs,ok.frf⟩
theorem Cx.ok_of{X:Cx}{pn:List (Addr×Obj)}{xe:Value->Shared->Prop}(ok:(Cx.at_ X pn xe).Ok):X.Ok:= ⟨ok.mod,ok.kind,ok.glob,ok.blt,ok.above,ok.inj,ok.has,ok.cab,ok.hd,ok.frames,ok.stk,ok.exf,ok.bs,ok.bsz,ok.noex,ok.exfs,ok.funs,ok.frf⟩
theorem Cx.ok_mk{X:Cx}(ok:X.Ok){e:Addr}{pn:List (Addr×Obj)}:(Cx.mk_ X e pn).Ok:= ⟨ok.mod,ok.kind,ok.glob,ok.blt,ok.above,ok.inj,ok.has,ok.cab,(fun h=>by cases h),ok.frames,ok.stk,ok.exf,ok.bs,ok.bsz,ok.noex,ok.exfs,ok.funs,ok.frf⟩
section
variable {X:Cx}{pins:List (Addr×Obj)}{O:L2.St}{H:Hp}{s:Shared}
theorem _root_.L2.Inv.at_(I:L2.Inv X pins O H s){xe:Value->Shared->Prop}:L2.Inv (Cx.at_ X (X.pn++pins) xe) [] O H s:= ⟨Cx.ok_at I.ok,I.os,I.bare,I.base,I.loc,I.cell,I.free,I.freeC,fun p hp=>I.pin p (by simpa using hp),I.hok,I.len⟩
theorem _root_.L2.Inv.of_at{xe:Value->Shared->Prop}{pins':List (Addr×Obj)}(I:L2.Inv (Cx.at_ X (X.pn++pins) xe) pins' O H s):L2.Inv X pins O H s:= ⟨Cx.ok_of I.ok,I.os,I.bare,I.base,I.loc,I.cell,I.free,I.freeC,fun p hp=>I.pin p (_ad _ hp),I.hok,I.len⟩
theorem _root_.L2.Inv.mk_(I:L2.Inv X pins O H s){e:Addr}:L2.Inv (Cx.mk_ X e (X.pn++pins)) [] O H s:= ⟨Cx.ok_mk I.ok,I.os,I.bare,I.base,I.loc,I.cell,I.free,I.freeC,fun p hp=>I.pin p (by simpa using hp),I.hok,I.len⟩
theorem _root_.L2.Inv.of_mk{e:Addr}{pins':List (Addr×Obj)}(ok:X.Ok)(I:L2.Inv (Cx.mk_ X e (X.pn++pins)) pins' O H s):L2.Inv X pins O H s:= ⟨ok,I.os,I.bare,I.base,I.loc,I.cell,I.free,I.freeC,fun p hp=>I.pin p (_ad _ hp),I.hok,I.len⟩
theorem Fly.land{P:Program}{w:World}{outer:List Env}{H H':Hp}{s s':Shared}{C ea:Addr}{h5 B:Heap}{a0:Value}(un:Un (frs outer) [] H H' s.heap s'.heap)(hok:HOk P w H' s'.heap)(fw:Heap.FlyingW B outer ea (.ref C) a0 s'.heap) (cov:∀ b o,s'.heap.get? b=some o->(H' b≠none\/((∃ o',s.heap.get? b=some o')/\b∉frs outer))->B.get? b=some o)(fw5:Heap.FlyingW B outer ea (.ref C) a0 h5)(sm:s'.heap.UpToSlots h5): s.heap.get? ea=none/\H' ea=none/\Un (frs outer) [] H (upd H' ea (zcG C ea)) s.heap h5/\HOk P w (upd H' ea (zcG C ea)) h5/\∃ oe,h5.get? ea=some oe/\oe.cls=.ref C:=by
 have k:=fw5.1;obtain ⟨oe,vs,T,oT,ts,he,⟨hcls,_⟩,hd,_⟩:=fw5.2.2.2;obtain ⟨oe',vs',_,_,_,he',_,hd',_⟩:=fw.2.2.2;have new:s.heap.get? ea=none:=by cases z:s.heap.get? ea with
  | none=>rfl | some o=>
   exfalso;obtain ⟨o1,e1⟩:=un.there ea o z (by simp);by_cases hf:ea∈frs outer
   ·obtain ⟨_,o2,e2,hnf⟩:=fw.2.2.1.mem hf;rw [he'] at e2;cases e2;exact hnf _ hd'
   ·have:=cov ea o1 e1 (.inr ⟨⟨o,z⟩,hf⟩);rw [fw.2.1] at this;cases this
 have hn:H' ea=none:=by cases z:H' ea with
  | none=>rfl | some u=>
   exfalso;have:=cov ea _ he' (.inl (by rw [z];simp));rw [fw.2.1] at this;cases this
 have ne:∀ b o,s.heap.get? b=some o->b≠ea:=fun b o e z=>by rw [z,new] at e;cases e
 have neH:∀ b u,H' b=some u->b≠ea:=fun b u e z=>by rw [z,hn] at e;cases e
 refine ⟨new,hn,⟨fun b o e n nf _=>?_,fun b o e n hf _=>?_,fun b o e n _=>?_,fun b o e _=>?_,fun b xs e=>?_,fun b o u e=>?_,fun b ps e=>?_⟩,fun a o e=>?_,oe,he,hcls⟩
 ·have e1:=un.keep b o e n nf (by simp);exact k b o (cov b o e1 (.inr ⟨⟨o,e⟩,nf⟩))
 ·obtain ⟨sl,e1⟩:=un.slot b o e n hf (by simp);obtain ⟨_,o2,e2,hnf⟩:=fw.2.2.1.mem hf;rw [e1] at e2;cases e2;obtain ⟨sl2,e3⟩:=sm b _ e1 hnf;exact ⟨sl2,e3⟩
 ·rw [zx (ne b o e)];exact un.free b o e n (by simp)
 ·by_cases hf:b∈frs outer
  ·obtain ⟨_,o2,e2,hnf⟩:=fw.2.2.1.mem hf;obtain ⟨sl2,e3⟩:=sm b _ e2 hnf;exact ⟨_,e3⟩
  ·obtain ⟨o1,e1⟩:=un.there b o e (by simp);exact ⟨o1,k b o1 (cov b o1 e1 (.inr ⟨⟨o,e⟩,hf⟩))⟩
 ·have q:=un.tups b xs e;rw [zx (neH b _ q)];exact q
 ·have q:=un.frzs b o u e;rw [zx (neH b _ q)];exact q
 ·obtain ⟨more,q⟩:=un.tbls b ps e;exact ⟨more,by rw [zx (neH b _ q)];exact q⟩
 ·by_cases z:a=ea
  ·subst z;rw [zC] at e;cases e;exact ⟨⟨oe,vs,he,hcls,hd⟩,⟨oe,he⟩,fun h1 h2 ⟨o,ws,q1,q2,q3⟩ st=>⟨o,ws,st o q1,q2,q3⟩⟩
  ·rw [zx z] at e;refine (HOk.cov hok (fun b o e n=>cov b o e (.inl n)) k a o e).stay (fun b u _ q=>q) (fun b q=>?_) fun b xs q=>?_;·rw [zx (neH b _ q)];exact q
   ·rw [zx (neH b _ q)];exact q
end
def zjd(K:W.Frag)(mg:Str->Option Value)(x y:Str):Prop:=∃ C D,mg x=some (.ref C)/\mg y=some (.ref D)/\W.excIn K C bmV "ValueError.__new__"=true/\W.excIn K D bmV "ValueError.__new__"=true/\ ∀ h₀:Heap,K.In h₀->∃ bm N nm q bs hdct sn sub ab col dd k0 k1 k2 k3 k5,h₀.get? C=some (excClassObj nm q C N bs bm hdct sn sub ab col dd k0 k1 k2 k3 k5 "ValueError.__new__")/\(Value.ref C::bm).contains (.ref D)=true
section
variable {prog:Program}{w:World}{A:Around}{E:Value->Shared->Prop}{s:Shared}{env:Env}
theorem z1N {e C D:Addr} {t:Expr} {n:Str} {b₀:Stmt} {suite:List Stmt} {pos:Pos} {uh:List ExceptHandler} {Q:Flow->Shared->Prop} (h:wpAny (model prog w) (A.mark (some (.ref e))) (eval t env) (fun c s₁=>c=.ref D/\ (∃ bm N nm q bs hdct sn sub ab col dd k0 k1 k2 k3 k5 newId,s₁.heap.get? C=some (excClassObj nm q C N bs bm hdct sn sub ab col dd k0 k1 k2 k3 k5 newId)/\(Value.ref C::bm).contains (.ref D)=true)/\ (∃ bm N nm q bs hdct sn sub ab col dd k0 k1 k2 k3 k5 newId,s₁.heap.get? D=some (excClassObj nm q D N bs bm hdct sn sub ab col dd k0 k1 k2 k3 k5 newId)/\bm.contains (.type "BaseException")=true)/\(∃ oe,s₁.heap.get? e=some oe/\oe.cls=.ref C)/\ wpAny (model prog w) (A.mark (some (.ref e))) (setFlight (.ref e) none) (fun _ s₂=> wpAny (model prog w) (A.mark (some (.ref e))) (storeName env n (.ref e)) (fun _ s₃=> wpAny (model prog w) (A.mark (some (.ref e))) (execs (b₀::suite) env) (fun f s₄=>wpAny (model prog w) A (do bindName env n .none;unbindBehindTheSuite env n pos) (fun _ s₅=>Q f s₅) E s₄) (AsSuiteRaised (model prog w) (A.mark (some (.ref e))) env n pos (notedBy (model prog w) (A.mark (some (.ref e))) env (cameBackBy (model prog w) A env E))) s₃) (notedBy (model prog w) (A.mark (some (.ref e))) env (cameBackBy (model prog w) A env E)) s₂) (notedBy (model prog w) (A.mark (some (.ref e))) env (cameBackBy (model prog w) A env E)) s₁) (notedBy (model prog w) (A.mark (some (.ref e))) env (cameBackBy (model prog w) A env E)) s): wpAny (model prog w) A (handleBy (.ref e) env (.ExceptHandler (some t) (some n) (b₀::suite) pos::uh)) Q E s:=by
 refine wpAny_handleBy_cons (codeAny_handlers_test (_t h (fun c s₁ h₁=>?_) fun _ _ y=>y)) (by intro q;cases q);obtain ⟨rfl,⟨bm,N,nm,q,bs,hdct,sn,sub,ab,col,dd,k0,k1,k2,k3,k5,newId,hC,hsub⟩,⟨bm',N',nm',q',bs',hdct',sn',sub',ab',col',dd',k0',k1',k2',k3',k5',newId',hD,hbase⟩,⟨oe,he,hcls⟩,hk⟩:=h₁;obtain ⟨hh,g,d,tk,os⟩:=s₁;exact uZ hC hD he hcls hbase hsub (codeAny_handlers_suite_as hk)
end
def zi2(cs:List Str)(fb:FS)(j:Nat)(fh:FS):FS:=fun Z s=>match fb Z s with
 | .ex c s1=>if c∈cs then (match fh ((List.replicate Z.length none).set j (some (.exc c))) s1 with
  | .ok (.rt d) s2=>.ok (.rt d) s2 | _=>.no) else .no | .ok (.rt d) s1=>.ok (.rt d) s1 | _=>.no
section
variable {X:Cx}{E:XK}{pos hpos np:Pos}
theorem zkc {cs:List Str} {y n:Str} {body:List Stmt} {b₀:Stmt} {suite:List Stmt} {j:Nat} {fb fh:FS} (hst:X.stack=X.env::X.outer) (hfr:X.env.frame=some X.env.locals) (hex:X.ex=[]) (hcs:∀ c∈cs,zjd X.K X.mg c y) (hg:Gl X y) (hN:X.N.Nodup) (hj:X.N[j]? = some n) (hloc:X.env.scope.names.lookup n=some .local) (hb:∀ (pn:List (Addr×Obj)) (xe:Value->Shared->Prop) (E1:XK),Passes (CX1 X.prog X.w) (Cx.at_ X pn xe) E1->RSs (Cx.at_ X pn xe) E1 body fb) (hh:∀ (e:Addr) (pn:List (Addr×Obj)),RSs (Cx.mk_ X e pn) E0 (b₀::suite) fh) (hdb:(y==("__debug__":Str))=false:=by decide): RS X E (.Try body [.ExceptHandler (some (.Name y np)) (some n) (b₀::suite) hpos] [] [] pos) (zi2 cs fb j fh):=by
 intro pins s O H D I hw;obtain ⟨Y,Z,st0,r,en,h⟩:=hw;have hlen:Z.length=X.N.length:=by rw [en.len,I.len]
 refine wpAny_Try_except ?_;generalize hEb:(fun (e:Value) (s₁:Shared)=>wpAny (model X.prog X.w) X.A (noteFrame e X.env) (fun _ s₂=>wpAny (model X.prog X.w) X.A (setFlight e none) (fun _ s₃=>wpAny (model X.prog X.w) X.A (handleBy e X.env [.ExceptHandler (some (.Name y np)) (some n) (b₀::suite) hpos]) (SP X pins D) X.xe s₃) X.xe s₂) X.xe s₁)=Eb;let E1:XK:=fun v _ H'=>∃ c Y' st' C d s2,v=.ref C/\c∈cs/\X.mg c=some (.ref C)/\xr (gm X) H Y H' Y' st'/\fh ((List.replicate Z.length none).set j (some (.exc c))) st'=.ok (.rt d) s2/\okR (gm X) E H Y (FlD (gm X)) (.ok (.rt d) s2) (z3w D);have pass:Passes (CX1 X.prog X.w) (Cx.at_ X (X.pn++pins) Eb) E1:=by
  intro pins' O' H1 s1 e s' I1 hcx;obtain ⟨C,ea,H',he,fl,hE⟩:=hcx;subst he;obtain ⟨c,Y',st',C',d,s2,eC,hcm,hmc,stp,efh,ok⟩:=hE;cases eC;have J1:=I1.of_at;obtain ⟨B,a0,fw,cov⟩:=fl.fly;have fw:Heap.FlyingW B (X.env::X.outer) ea (.ref C) a0 s'.heap:=by rw [<- hst];exact fw
  have un:Un (frs (X.env::X.outer)) [] H1 H' s1.heap s'.heap:=by rw [<- hst];exact fl.un
  have cov:∀ b o,s'.heap.get? b=some o->(H' b≠none\/((∃ o',s1.heap.get? b=some o')/\b∉frs (X.env::X.outer)))->B.get? b=some o:=by rw [<- hst];exact cov
  have land:∀ h5,Heap.FlyingW B (X.env::X.outer) ea (.ref C) a0 h5->s'.heap.UpToSlots h5->L2.Inv X pins O' (upd H' ea (zcG C ea)) {s' with heap:=h5}/\H' ea=none/\∃ oe,h5.get? ea=some oe/\oe.cls=.ref C:=fun h5 fw5 sm=>by
   obtain ⟨_,hn,un5,hok5,oe⟩:=Fly.land un fl.hok fw cov fw5 sm;exact ⟨J1.call' (s':={s' with heap:=h5}) (ch:=[]) fl.os (by rw [hst];exact un5) hok5 fl.bare (fun b z=>absurd z (by simp)),hn,oe⟩
  rw [<- hEb];have hfrm:X.A.frames=some (X.env::X.outer):=by rw [<- hst];exact J1.ok.frames
  show wpAny (model X.prog X.w) X.A (noteFrame (.ref ea) X.env) _ _ s';refine wpAny_looks_onW (base:=B) hfrm hfr fw fun h4 held sm4=>?_;refine wpAny_landsW held fun h5 fw5 sm5=>?_;obtain ⟨I5,hn5,oe5⟩:=land h5 fw5 (sm4.trans sm5);obtain ⟨C2,D2,hm2,hmy,q1,q2,hsub⟩:=hcs c hcm;rw [hmc] at hm2;cases hm2;refine z1N (C:=C) (D:=D2) (z0v (X:=Cx.mk_ X ea (X.pn++pins)) I5.mk_ hg hmy ⟨rfl,?_,?_,oe5,?_⟩ hdb)
  ·obtain ⟨bm,N,nm,q,bs,hdct,sn,sub,ab,col,dd,k0,k1,k2,k3,k5,hC,hs⟩:=hsub _ I5.kIn;exact ⟨bm,N,nm,q,bs,hdct,sn,sub,ab,col,dd,k0,k1,k2,k3,k5,_,hC,hs⟩
  ·obtain ⟨bm,N,nm,q,bs,hdct,sn,sub,ab,col,dd,k0,k1,k2,k3,k5,mN,hC,hNs,hni,T⟩:=zbI I5.kIn q2;exact ⟨bm,N,nm,q,bs,hdct,sn,sub,ab,col,dd,k0,k1,k2,k3,k5,_,hC,T.hasType _bq.hasBase⟩
  ·refine lands_againW fw5 fun h6 fw6 sm6=>?_;obtain ⟨I6,hn6,oe6⟩:=land h6 fw6 ((sm4.trans sm5).trans sm6);refine z1z (X:=Cx.mk_ X ea (X.pn++pins)) I6.mk_ hN hj (.inl hloc) (show yu (.ref ea) (.ref ea) from rfl) (fun s7 I7=>?_) (.inr hloc);have stl:xr (gm X) H' Y' (upd H' ea (zcG C ea)) Y' st':=xr.lay stp.rep hn6 (by intro vs z;cases z);have stl2:=stp.trans stl;have enh:vG (gm X) (upd H' ea (zcG C ea)) Y' ((List.replicate Z.length none).set j (some (.exc c))) (O'.set j (some (.ref ea))):=by
    refine ⟨by rw [_bC,_bS,_bC,hlen];exact J1.len.symm,fun i d' hi=>?_⟩;by_cases z:j=i
    ·subst z;have hjl:j<(List.replicate Z.length (none:Option Dd.D)).length:=by
      have:=(_b.mp hi).1;simpa using this
     rw [_O hjl] at hi;cases hi;refine ⟨.ref ea,by rw [_O (by rw [J1.len,<- hlen];simpa using hjl)],?_⟩;simp only [Den];exact ⟨ea,C,rfl,hmc,zC⟩
    ·rw [_C z,_be] at hi;split at hi<;>cases hi
   have run:=hh ea (X.pn++pins) [] s7 (O'.set j (some (.ref ea))) (upd H' ea (zcG C ea)) {nx:=fun _ _=>False,rt:=D.rt} I7 ⟨Y',_,st',stl2.rep,enh,by
    rw [efh];intro fv H2 Y2 stp2 fd;cases fv with
    | rt v=>exact ok (.rt v) H2 Y2 (stl2.trans stp2) fd | _=>exact (show False from fd).elim⟩;refine _t run (fun fl s8 q8=>?_) fun _ _ z=>z.elim;cases fl with
   | ret u=>
    obtain ⟨v,O8,H8,I8,rv,q8⟩:=q8;have J8:=I8.of_mk J1.ok;obtain ⟨m,hn,_⟩:=J8.loc;refine wpAny_nameGoes (env:=X.env) hloc hn (by rw [J1.ok.kind];rfl) fun h9 m9 hn9 sb9=>?_;exact ⟨v,_,H8,J8.locals hn9 sb9,rv,q8⟩ | next=>obtain ⟨_,_,_,z⟩:=q8;exact z.elim | brk=>obtain ⟨_,_,_,z⟩:=q8;exact z.elim | cont=>obtain ⟨_,_,_,z⟩:=q8;exact z.elim
 have run:=hb (X.pn++pins) Eb E1 pass [] s O H {nx:=fun _ _=>False,rt:=D.rt} I.at_ ⟨Y,Z,st0,r,en,?_⟩
 ·refine _t run (fun fl s1 q1=>?_) fun _ _ z=>z;cases fl with
  | ret u=>
   obtain ⟨v,O8,H8,I8,rv,q8⟩:=q1;exact ⟨v,O8,H8,I8.of_at,rv,q8⟩ | next=>obtain ⟨_,_,_,z⟩:=q1;exact z.elim | brk=>obtain ⟨_,_,_,z⟩:=q1;exact z.elim | cont=>obtain ⟨_,_,_,z⟩:=q1;exact z.elim
 ·unfold zi2 at h;cases e:fb Z st0 with
  | no=>rw [e] at h;exact h.elim | ok fl s1=>
   rw [e] at h;cases fl with
   | rt d=>
    intro fv H2 Y2 stp2 fd;cases fv with
    | rt v=>exact h (.rt v) H2 Y2 stp2 fd | _=>exact (show False from fd).elim
   | _=>exact h.elim
  | ex c s1=>
   rw [e] at h;intro H' Y' C stp hmc;simp only at h;split at h
   ·rename_i hcm;cases e2:fh ((List.replicate Z.length none).set j (some (.exc c))) s1 with
    | no=>rw [e2] at h;exact h.elim | ex _ _=>rw [e2] at h;exact h.elim | ok fl s2=>
     rw [e2] at h;cases fl with
     | rt d=>exact ⟨c,Y',s1,C,d,s2,rfl,hcm,hmc,stp,e2,h⟩ | _=>exact h.elim
   ·exact h.elim
end
end Dd
namespace PySem
open PySem.Sem (wp)
open PySem.W
structure ExcCls(K:Frag)(C:Addr):Prop where
 ga:findIn K (.ref C) "__getattribute__"=some (some (.builtin "BaseException.__getattribute__"))
 gh:findIn K (.ref C) "__getattr__"=some none
 cl:findIn K (.ref C) "__class__"=some (some (.builtin "object.__class__"))
 ob:mroIn K C (.type "object")=some true
 be:mroIn K C (.type "BaseException")=some true
 ty:∃ d cd sl,K.lookup C=some ⟨.type "type",d,.cls cd,sl⟩
section
variable {prog:Program}{w:World}{A:Around}{E:Value->Shared->Prop}{K:Frag}{h:Heap}{g:Array GenState}{d:Drawn}{t:Nat}{os:OsState}{a C:Addr}{o:Obj}
theorem ziI{M:Model}(hx:h.get? a=some o)(hc:o.cls=.ref C):Looks M h (typeOf (.ref a)) (.ref C):=by
 intro A' Q' E' s' k q;unfold typeOf;refine _a (wpAny_loadPart (k _ _ hx) ?_);rw [hc];exact _c q
theorem z4y{R:Result->Shared->Prop}(X:K.In h)(Fx:ExcCls K C)(hx:h.get? a=some o)(hc:o.cls=.ref C)(hq:R (.ok (.ret (.ref C))) ⟨h,g,d,t,os⟩): codeAny (model prog w) A (.call (.builtin "getset_descriptor.__get__") ⟨[.builtin "object.__class__",.ref a,.ref C],[]⟩) R ⟨h,g,d,t,os⟩:=by
 have hT5:(⟨h,g,d,t,os⟩:Shared).TypeIs (.builtin "object.__class__") "getset_descriptor":=_bU;have L1:=looks_mroIn (M:=model prog w) X Fx.ob;rw [<- F.owner_object_class] at L1;refine codeAny_call_builtin F.slot_gs_get.plain F.entry_gs_get (F.slot_gs_get.check _ _ _ _ _ _ _ _ hT5 (F.args_gs_get _ _ _) ?_);repeat (any_goals (first | assumption | (with_reducible refine _as hx ?_;rw [hc]) | (with_reducible refine L1.at ?_) | wp_step))
 refine ⟨Code.quiet_builtin _ (by decide +kernel),codeAny_builtin F.entry_object_class ?_⟩;repeat (any_goals (first | assumption | (with_reducible refine _as hx ?_;rw [hc]) | wp_step))
theorem z1E{tk:Tok}{Q:Fin->Shared->Prop}(X:K.In h)(Fx:ExcCls K C)(hx:h.get? a=some o)(hc:o.cls=.ref C)(hq:Q (.done (.ret (.ref C))) ⟨h,g,d,t,os⟩): wpAny (model prog w) A (Builtin.«object.__getattribute__» ⟨[.ref a,.str "__class__" tk],[]⟩) Q E ⟨h,g,d,t,os⟩:=by
 have hT5:(⟨h,g,d,t,os⟩:Shared).TypeIs (.builtin "object.__class__") "getset_descriptor":=_bU;have L4:=looks_findIn (M:=model prog w) X Fx.cl;have f5:=_bU;have f6:=F.slot_gs_get.lookup;have f7:=F.slot_gs_set.lookup;repeat (any_goals (first | assumption | (with_reducible refine _as hx ?_;rw [hc]) | (with_reducible refine L4.at ?_) | wp_step))
 refine z4y X Fx hx hc ?_;repeat (any_goals (first | assumption | wp_step))
theorem z6x{M:Model}{nameV:Value}{Q:Unit->Shared->Prop}(X:K.In h)(Fx:ExcCls K C)(hx:h.get? a=some o)(hc:o.cls=.ref C)(hq:Q () ⟨h,g,d,t,os⟩):wpAny M A (checkBuiltinCall "BaseException.__getattribute__" ⟨[.ref a,nameV],[]⟩) Q E ⟨h,g,d,t,os⟩:=by
 have hk:builtinKind "BaseException.__getattribute__"=some .slot:=by decide +kernel
 have hsplit:splitId "BaseException.__getattribute__"=some ("BaseException","__getattribute__"):=by decide +kernel
 have L1:=looks_mroIn (M:=M) X Fx.be;have ha:=F.args_bexc_ga (.ref a) nameV;simp only [checkBuiltinCall,hk,hsplit];refine _a ?_
 ·unfold isInstance;repeat (first | (with_reducible refine _as hx ?_;rw [hc]) | (with_reducible refine L1.at ?_) | wp_step)
  exact hq
theorem z2Q{tk:Tok}{R:Result->Shared->Prop}(X:K.In h)(Fx:ExcCls K C)(hx:h.get? a=some o)(hc:o.cls=.ref C)(hq:R (.ok (.ret (.ref C))) ⟨h,g,d,t,os⟩): codeAny (model prog w) A (.call (.builtin "BaseException.__getattribute__") ⟨[.ref a,.str "__class__" tk],[]⟩) R ⟨h,g,d,t,os⟩:= codeAny_call_builtin F.attrBase_ValueError.ga.plain F.entry_bexc_ga (z6x X Fx hx hc (z1E X Fx hx hc hq))
theorem z5H{tk:Tok}{fill expr:Bool}{Q:Value->Shared->Prop}(X:K.In h)(Fx:ExcCls K C)(hx:h.get? a=some o)(hc:o.cls=.ref C)(hq:Q (.ref C) ⟨h,g,d,t,os⟩): wpAny (model prog w) A (getAttrBy (.ref a) (.str "__class__" tk) fill expr) Q E ⟨h,g,d,t,os⟩:=by
 have f3:=F.attrBase_ValueError.ga.bind (.ref a);have hx0:(expr&&onTheHeap (Value.builtin "BaseException.__getattribute__"))=false:=by cases expr<;>rfl
 have hx2:(Value.builtin "BaseException.__getattribute__"==Value.builtin "object.__getattribute__")=false:=by decide +kernel
 have hx1:(onTheHeap (Value.ref C)&&Value.builtin "BaseException.__getattribute__"==Value.builtin "object.__getattribute__")=false:=by rw [hx2];rfl
 have L1:=looks_findIn (M:=model prog w) X Fx.ga;have L2:=looks_findIn (M:=model prog w) X Fx.gh;repeat (any_goals (first | assumption | (with_reducible refine _as hx ?_;rw [hc]) | (with_reducible refine L1.at ?_) | (with_reducible refine L2.at ?_) | wp_step))
 refine z2Q X Fx hx hc ?_;repeat (any_goals (first | assumption | wp_step))
theorem z35{Q:Option Value->Shared->Prop}(X:K.In h)(Fx:ExcCls K C)(hx:h.get? a=some o)(hc:o.cls=.ref C)(hq:Q (some (.ref C)) ⟨h,g,d,t+1,os⟩):wpAny (model prog w) A (getAttr? (.ref a) "__class__") Q E ⟨h,g,d,t,os⟩:=by
 unfold getAttr? getAttrBy?;repeat (any_goals (first | assumption | with_reducible apply z5H X Fx hx hc | (with_reducible refine _as hx ?_;rw [hc]) | wp_step))
end
theorem zcB{K:Frag}{a C:Addr}(Fx:ExcCls K C):KitX K (.ref a) (.ref C) (fun h=>∃ o,h.get? a=some o/\o.cls=.ref C) where
 ty:=fun _ _ _ ⟨_,hx,hc⟩=>ziI hx hc;it:=fun _ _ X _=>by
  obtain ⟨dd,cd,sl,ho⟩:=Fx.ty;intro A' Q' E' s' k q;unfold isType loadHead;exact _a (wpAny_loadPart (k _ _ (X _ _ ho)) (_c q))
 ne:=fun h tp dd its n sl X htp=>by
  obtain ⟨d2,cd,sl2,ho⟩:=Fx.ty;cases e:(Value.ref C==Value.ref tp) with
  | false=>rfl | true=>
   have e:=eq_of_beq e;cases e;have:=X _ _ ho;rw [htp] at this;simp at this
 ca:=fun {prog w A E Q s} X p hq=>by
  obtain ⟨h,g,d,t,os⟩:=s;obtain ⟨o,hx,hc⟩:=p;exact z35 X Fx hx hc hq
end PySem
namespace L2
section
variable {X:Cx}{pins:List (Addr×Obj)}{O:St}{H:Hp}{s:Shared}{A:Around}{E:Value->Shared->Prop}{Q:Value->Shared->Prop}{b:Bool}
theorem z9o {x:V} {u t:Value} {tp:Addr} {cs:List V} (I:Inv X pins O H s) (rx:yu x u) (ty:z6E X.K H x t) (ht:H tp=some (.tup cs)) (e:∀ its,ym cs its->W.kitAny X.K t its=some b) (h:∀ tk,Q (.bool b) {s with toks:=tk}): wpAny (model X.prog X.w) A (call (.builtin "isinstance") [u,.ref tp]) Q E s:=by
 obtain ⟨_,its,vi,o,g1,g2,_,n,g3⟩:=(show yj X.prog X.w H s.heap tp (.tup cs) from I.hok tp _ ht);have e:=e its vi;obtain ⟨oc,od,oD,os⟩:=o;cases g2;cases g3;cases ty with
 | non=>cases (show u=Value.none from rx);exact _bl W.kitx_none I.kIn True.intro g1 e (fun z=>nomatch z) h | bl y=>cases (show u=Value.bool y from rx);exact _bl W.kitx_bool I.kIn True.intro g1 e (fun z=>nomatch z) h | int i=>obtain ⟨t,q⟩:=(show ∃ t,u=Value.int i t from rx);cases q;exact _bl W.kitx_int I.kIn True.intro g1 e (fun z=>nomatch z) h | str y=>obtain ⟨t,q⟩:=(show ∃ t,u=Value.str y t from rx);cases q;exact _bl W.kitx_str I.kIn True.intro g1 e (fun z=>nomatch z) h | flt y=>obtain ⟨t,q⟩:=(show ∃ t,u=Value.float y t from rx);cases q;exact _bl W.kitx_float I.kIn True.intro g1 e (fun z=>nomatch z) h | @lst a xs ea=>
  cases (show u=Value.ref a from rx);obtain ⟨_,_,n,_,h1⟩:=(show yj X.prog X.w H s.heap a (.lst xs) from I.hok a _ ea);exact _bl W.kitx_list I.kIn ⟨_,h1,rfl⟩ g1 e (fun z=>nomatch z) h | @frz a ob xs ea=>
  cases (show u=Value.ref a from rx);obtain ⟨_,_,_,n,_,h1⟩:=(show yj X.prog X.w H s.heap a (.frz ob (.lst xs)) from I.hok a _ ea);exact _bl W.kitx_list I.kIn ⟨_,h1,rfl⟩ g1 e (fun z=>nomatch z) h | @tup a xs ea=>
  cases (show u=Value.ref a from rx);obtain ⟨_,_,_,p⟩:=(show yj X.prog X.w H s.heap a (.tup xs) from I.hok a _ ea);obtain ⟨o,h1,h2,_⟩:=p;exact _bl W.kitx_tuple I.kIn ⟨o,h1,h2⟩ g1 e (fun z=>nomatch z) h | @dK a kvs ea=>
  cases (show u=Value.ref a from rx);obtain ⟨_,_,vs,_,p⟩:=(show yj X.prog X.w H s.heap a (.dK kvs) from I.hok a _ ea);obtain ⟨o,es,ep,h1,h2,_⟩:=p;exact _bl W.kitx_dict I.kIn ⟨o,h1,h2.1⟩ g1 e (fun z=>nomatch z) h | @dT a kvs ea=>
  cases (show u=Value.ref a from rx);obtain ⟨_,_,xs,_,o,es,ep,h1,h2,_⟩:=(show yj X.prog X.w H s.heap a (.dT kvs) from I.hok a _ ea);exact _bl W.kitx_dict I.kIn ⟨o,h1,h2.1⟩ g1 e (fun z=>nomatch z) h | @ins a C dx fs ea cl ha hn htk hm=>
  cases (show u=Value.ref a from rx);obtain ⟨mA,Oo,_⟩:=zaO I.hok ea;obtain ⟨od,J,_⟩:=Oo.look;exact _bl (W.kitx_own (cl.get _) cl.hd ha hn htk hm) I.kIn J g1 e (fun z=>nomatch z) h
end
theorem z6f{X:Cx}:xK X (.builtin "isinstance") (fun xs H Q=>∃ x t tp T U b,xs=[x,.ref tp]/\H tp=some (.tup [.ty T,.ty U])/\z6E X.K H x t/\W.kitAny X.K t [.type T,.type U]=some b/\Q (.bl b) H):=by
 intro pins s O H xs us Q I r h;obtain ⟨x,t,tp,T,U,b,rfl,htp,ht,hk,q⟩:=h;obtain ⟨u,v,rfl,ru,rv⟩:=vals2 r;cases rv;refine z9o I ru ht htp (fun its vi=>?_) fun tk=>⟨.bl b,H,I.tok _,rfl,q⟩;obtain ⟨u1,u2,rfl,r1,r2⟩:=vals2 vi;cases r1;cases r2;exact hk
end L2
namespace Dd
open L2
section
variable {X:Cx}{E:XK}{e a b c tg:Expr}{es:List Expr}{pos:Pos}{CX:CXT}
theorem zf8{K:W.Frag}{t T U:String}(h:t∈["NoneType","bool","int","str","tuple","list","dict"])(hT:T∈["int","bool","str","tuple","list"])(hU:U∈["int","bool","str","tuple","list"]):W.kitAny K (.type t) [.type T,.type U]=some (isT T t||isT U t):=by
 simp only [W.kitAny,z7I h T hT,z7I h U hU];cases isT T t<;>cases isT U t<;>rfl
def zib(T U:String):D->Sto->R D:=fun d s=>match tyD d with | some t=>.ok (.bl (isT T t||isT U t)) s | none=>.no
def zhT(T U:String)(f:FE):FE:=fun Z s=>(f Z s).bind fun d s1=>zib T U d s1
theorem zk8{p p1 p2 pt:Pos}{k:Nat}{T U:String}{tn un:Str}{f:FE}(hT:T∈["int","bool","str","tuple","list"])(hU:U∈["int","bool","str","tuple","list"])(hv:bootBuiltins tn=some (.type T))(hv2:bootBuiltins un=some (.type U))(hg:Gl X "isinstance")(hm:X.mg "isinstance"=none)(hg1:Gl X tn)(hm1:X.mg tn=none)(hg2:Gl X un)(hm2:X.mg un=none)(he:RE X E e f) (hn:tn≠"__name__":=by decide)(hd:(tn==("__debug__":Str))=false:=by decide)(hn2:un≠"__name__":=by decide)(hd2:(un==("__debug__":Str))=false:=by decide) (hs:starEach [e,.Tuple [.Name tn p1,.Name un p2] k pt] X.env=(false,eval e X.env)::starEach [.Tuple [.Name tn p1,.Name un p2] k pt] X.env:=by rfl)(hpl:(backTo pos (starEach [.Tuple [.Name tn p1,.Name un p2] k pt] X.env)).any (·.1)=false:=by rfl): RE X E (.Call (.Name "isinstance" p) [e,.Tuple [.Name tn p1,.Name un p2] k pt] [] pos) (zhT T U f):= zE (jl z6f hg hm (by decide +kernel) (yT he (yT (zdY (yT (z4p hg1 hm1 hv (show yu (.ty T) (.type T) from rfl) hn hd) (yT (z4p hg2 hm2 hv2 (show yu (.ty U) (.type U) from rfl) hn2 hd2) ux (zy ..)) (zy ..))) ux (z8c ..)) hs) (by decide) (by decide) hs hpl) fun O H Q ⟨Y,Z,s,r,en,h⟩=>by
  refine zB (k:=fun Z d s1=>zib T U d s1) r en h _ fun v H1 Y1 s1 d r1 en1 dn stp h1=>?_;unfold zib at h1;split at h1
  ·rename_i t et;refine ⟨(show (2:Nat)<=sizeLine from by decide +kernel),fun tp htp=>?_⟩;have st2:=xr.lay (o:=.tup [.ty T,.ty U]) r1 htp (by intro _ z;cases z);obtain ⟨q1,q2⟩:=zed st2.rep (dn.mono st2) et;exact ⟨v,.type t,tp,T,U,isT T t||isT U t,rfl,zC,q1,zf8 q2 hT hU,h1 _ _ _ st2 yX⟩
  ·exact h1.elim
end
end Dd
namespace L2
open MeetsSeq MeetsSeq2 SeqAt
def ziG(k:Bool):Value->Bool
 | .bool b=>b==k | _=>false
theorem z4B:∀ {bs:List Bool}{its:List Value},ym (bs.map V.bl) its->its=bs.map Value.bool
 | [],_,.nil=>rfl | b::bs,_,.cons r rs=>by
  cases r;rw [z4B rs];rfl
theorem zek:∀ (bs:List Bool)(k:Bool)(m:Nat)(hm:m<bs.length),m<bs.idxOf k->(bs[m]==k)=false
 | [],k,m,hm,_=>absurd hm (by simp) | b::bs,k,m,hm,h=>by
  rw [List.idxOf_cons] at h;cases e:b==k with
  | true=>rw [e] at h;simp at h | false=>
   rw [e] at h;cases m with
   | zero=>simpa using e | succ m=>simpa using zek bs k m (by simpa using hm) (by simpa using h)
section
variable {X:Cx}
def zjL:V->List V->Hp->VK->Prop:=fun x vs H Q=>∃ (p:Addr)(bs:List Bool)(k:Bool),x=.ref p/\vs=[.bl k]/\Rd H p (.lst (bs.map V.bl))/\Q (.int (bs.count k:Nat)) H
theorem z7H:MtR X "list.count" zjL:=by
 intro pins s O H x vs v us Q I rx rv h;obtain ⟨p,bs,k,rfl,rfl,hp,q⟩:=h;cases rx;obtain ⟨u,rfl,ru⟩:=vals1 rv;cases ru;obtain ⟨_,its,n,r,e1⟩:=hp.ok I.hok;cases z4B r;refine _bZ PySem.F.slot_list_count ⟨_,e1,rfl⟩ PySem.F.entry_list_count (PySem.F.args_list_count_2 _ _) (list_countAt p _ n _ _ (.bool k) (ziG k)) ⟨e1,fun y hy=>?_,?_⟩
 ·obtain ⟨b,_,rfl⟩:=_F.mp (_df.mp hy);exact EqAt.bool_bool b k
 ·have e:(List.map Value.bool bs).countP (ziG k)=bs.count k:=by rw [List.countP_map];rfl
  refine ⟨.int (bs.count k:Nat),H,I.kept (fun b o e=>e),⟨s.toks,?_⟩,q⟩;rw [<- e]
def zk0:V->List V->Hp->VK->Prop:=fun x vs H Q=>∃ (p:Addr)(bs:List Bool)(k:Bool),x=.ref p/\vs=[.bl k]/\Rd H p (.lst (bs.map V.bl))/\k∈bs/\bs.length<2 ^ 62/\Q (.int (bs.idxOf k:Nat)) H
theorem z7g:MtR X "list.index" zk0:=by
 intro pins s O H x vs v us Q I rx rv h;obtain ⟨p,bs,k,rfl,rfl,hp,hk,hl,q⟩:=h;cases rx;obtain ⟨u,rfl,ru⟩:=vals1 rv;cases ru;obtain ⟨_,its,n,r,e1⟩:=hp.ok I.hok;cases z4B r;have hj:bs.idxOf k<bs.length:=List.idxOf_lt_length_iff.mpr hk;refine _bZ PySem.F.slot_list_index ⟨_,e1,rfl⟩ PySem.F.entry_list_index (PySem.F.args_list_index_2 _ _) (list_indexAt p _ n _ _ (.bool k) (ziG k) (bs.idxOf k) (by simpa using hj) (by omega) ?_ ?_) ⟨e1,fun y hy=>?_,?_⟩
 ·have:=_cy hj;simp [ziG,this]
 ·intro m hm hlt;have hm':m<bs.length:=by simpa using hm
  have:=zek bs k m hm' hlt;simpa [ziG] using this
 ·obtain ⟨b,_,rfl⟩:=_F.mp (_df.mp hy);exact EqAt.bool_bool b k
 ·exact ⟨.int (bs.idxOf k:Nat),H,I.kept (fun b o e=>e),⟨s.toks,rfl⟩,q⟩
end
end L2
namespace Dd
open L2
section
variable {X:Cx}{E:XK}{o e:Expr}{pos:Pos}
def zg4(fo fv:FE):FE:=fun Z s=>(fo Z s).bind fun o s1=>match o with
 | .lst ds=>(fv Z s1).bind fun d s2=>match bools ds,d with
  | some ns,.bl k=>.ok (.int (ns.count k:Nat)) s2 | _,_=>.no
 | _=>.no
theorem zc6{apos:Pos}{fo fv:FE}(ho:RE X E o fo)(hv:RE X E e fv)(hbase:attributeBase o "count" X.env (eval o X.env)=eval o X.env:=by rfl) (hfew:((backTo pos (starEach [e] X.env)).all (fun x=>!x.1)&&(backToKw pos (keywordEach [] X.env)).all (fun x=>x.1.isSome) && decide ([e].length+([]:List Keyword).length+(if ([]:List Keyword).isEmpty then 0 else 1)<30))=true:=by rfl) (hline:(apos.endLine==pos.line)=true:=by rfl)(hs:starEach [e] X.env=(false,eval e X.env)::starEach [] X.env:=by rfl)(hplain:(backTo pos (starEach [] X.env)).any (·.1)=false:=by rfl): RE X E (.Call (.Attribute o "count" apos) [e] [] pos) (zg4 fo fv):= zE (zdq _bf PySem.F.slot_list_count PySem.F.type_list_count z7H ho (yT hv ux hs) hbase hfew hline hs hplain) fun O H Q ⟨Y,Z,s,r,en,h⟩=>by
  unfold zg4 at h;refine ⟨Y,Z,s,r,en,(okR.bind (Dn:=Den (gm X)) h).imp fun ov H1 ⟨Y1,s1,od,stp,dn,h1⟩=>?_⟩;cases od with
  | lst ds=>
   simp only at h1;have hty:tyV X.K "list" ov H1:=by
    simp only [Den] at dn;obtain ⟨a,ob,vs,rfl,e1,_⟩:=dn;exact .inl ⟨rfl,vs,.inl (.inr ⟨ob,e1⟩)⟩
   refine ⟨hty,⟨Y1,Z,s1,stp.rep,en.mono stp,(okR.bind (Dn:=Den (gm X)) h1).imp fun v H2 ⟨Y2,s2,d,stp2,dn2,h2⟩=>?_⟩⟩;split at h2
   ·rename_i ns k ei;cases uw dn2;have dov:=dn.mono stp2;simp only [Den] at dov;obtain ⟨a,ob,vs,rfl,e1,e2⟩:=dov;rw [z1s ei] at e2;cases z1p e2;exact ⟨a,ns,k,rfl,rfl,.inr ⟨ob,e1⟩,h2.here stp2.rep yn⟩
   ·exact h2.elim | _=>exact h1.elim
def zfU(fo fv:FE):FE:=fun Z s=>(fo Z s).bind fun o s1=>match o with
 | .lst ds=>(fv Z s1).bind fun d s2=>match bools ds,d with
  | some ns,.bl k=>if k∈ns/\ns.length<2 ^ 62 then .ok (.int (ns.idxOf k:Nat)) s2 else .no | _,_=>.no
 | _=>.no
theorem zd9{apos:Pos}{fo fv:FE}(ho:RE X E o fo)(hv:RE X E e fv)(hbase:attributeBase o "index" X.env (eval o X.env)=eval o X.env:=by rfl) (hfew:((backTo pos (starEach [e] X.env)).all (fun x=>!x.1)&&(backToKw pos (keywordEach [] X.env)).all (fun x=>x.1.isSome) && decide ([e].length+([]:List Keyword).length+(if ([]:List Keyword).isEmpty then 0 else 1)<30))=true:=by rfl) (hline:(apos.endLine==pos.line)=true:=by rfl)(hs:starEach [e] X.env=(false,eval e X.env)::starEach [] X.env:=by rfl)(hplain:(backTo pos (starEach [] X.env)).any (·.1)=false:=by rfl): RE X E (.Call (.Attribute o "index" apos) [e] [] pos) (zfU fo fv):= zE (zdq _bf PySem.F.slot_list_index PySem.F.type_list_index z7g ho (yT hv ux hs) hbase hfew hline hs hplain) fun O H Q ⟨Y,Z,s,r,en,h⟩=>by
  unfold zfU at h;refine ⟨Y,Z,s,r,en,(okR.bind (Dn:=Den (gm X)) h).imp fun ov H1 ⟨Y1,s1,od,stp,dn,h1⟩=>?_⟩;cases od with
  | lst ds=>
   simp only at h1;have hty:tyV X.K "list" ov H1:=by
    simp only [Den] at dn;obtain ⟨a,ob,vs,rfl,e1,_⟩:=dn;exact .inl ⟨rfl,vs,.inl (.inr ⟨ob,e1⟩)⟩
   refine ⟨hty,⟨Y1,Z,s1,stp.rep,en.mono stp,(okR.bind (Dn:=Den (gm X)) h1).imp fun v H2 ⟨Y2,s2,d,stp2,dn2,h2⟩=>?_⟩⟩;split at h2
   ·rename_i ns k ei;split at h2
    ·rename_i hk;cases uw dn2;have dov:=dn.mono stp2;simp only [Den] at dov;obtain ⟨a,ob,vs,rfl,e1,e2⟩:=dov;rw [z1s ei] at e2;cases z1p e2;exact ⟨a,ns,k,rfl,rfl,.inr ⟨ob,e1⟩,hk.1,hk.2,h2.here stp2.rep yn⟩
    ·exact h2.elim
   ·exact h2.elim | _=>exact h1.elim
end
end Dd
namespace L2
structure uy(k:Nat)(A:Around):Prop where
 dp:A.depth+3*k+5<recursionLimit
 un:A.units+16*k+200<cLine
 gd:A.guards=some []
theorem z09.h{k:Nat}{A:Around}(r:z09 k A):uy k A:=⟨r.dp,r.un,r.gd⟩
theorem uy.mono{j k:Nat}{A:Around}(r:uy k A)(h:j<=k):uy j A:=⟨by have:=r.dp;omega,by have:=r.un;omega,r.gd⟩
theorem uy.deeper{k:Nat}{A:Around}(r:uy (k+1) A)(env:Env):uy k (A.deeper env):= ⟨by have:=r.dp;show A.depth+1+3*k+5<_;omega,by have:=r.un;show A.units+3+16*k+200<_;omega,r.gd⟩
theorem uy.depth{k:Nat}{A:Around}(r:uy k A):A.depth<recursionLimit:=by have:=r.dp;omega
theorem uy.units{k:Nat}{A:Around}(r:uy k A):A.units+64<cLine:=by have:=r.un;omega
structure zbg(P:Program)(w:World)(K:W.Frag)(mg:Str->Option Value)(base:Heap)(CX:CXT)(k:Nat)(f:Addr)(fd:FuncData)(ps:List Str)(sp:Sp):Prop where
 len:∀ vs H Q E,sp vs H Q E->vs.length=ps.length
 run:∀ (A:Around)(outer:List Env)(s:Shared)(H:Hp)(args:Args)(us:List Value)(vs:List V)(Q:VK)(E:XK),uy k A->zhz P w K mg base A outer s H->BindsTo s fd args (ps.zip us)->ym vs us->sp vs H Q E-> codeAny (model P w) A (.call (.ref f) args) (CR CX outer P w H s Q E) s
theorem zgM {CX:CXT} {P:Program} {w:World} {K:W.Frag} {mg:Str->Option Value} {base:Heap} {k:Nat} {f:Addr} {name qual:Str} {params:Arguments} {body:List Stmt} {scope:Scope} {dV kV doc pm cdv ct oc:Value} {an od:Option Addr} {osl:Array (Option Value)} {N ps:List Str} {sp:Sp} (lk:K.lookup f=some ⟨oc,od,.func (W.fnOf name qual params body scope dV kV doc pm an cdv ct),osl⟩) (hcd:W.codeIn K cdv qual=true) (S:zr N ps scope) (len:∀ vs H Q E,sp vs H Q E->vs.length=ps.length) (hbody:∀ (A:Around) (outer:List Env) (s:Shared) (H:Hp) (vs:List V) (Q:VK) (E:XK),uy k (A.deeper (envOfC qual scope s.heap.objs.size f cdv))->sp vs H Q E-> ∃ t,PSs (z25 CX P w K mg base N qual scope f cdv A outer s H E) body t/\t {nx:=fun _ H'=>Q .non H',rt:=Q} (start N vs) H): zbg P w K mg base CX (k+1) f (W.fnOf name qual params body scope dV kV doc pm an cdv ct) ps sp:=by
 refine ⟨len,fun A outer s H args us vs Q E hr e0 hb r hsp=>?_⟩;have hl:=len _ _ _ _ hsp;have KX:K.In s.heap:=e0.mod.kin.keeps fun b o e=>(e0.bs b o e).1;have lim:s.heap.NoLimit:=e0.mod.nolimit.keeps fun b o e=>(e0.bs b o e).1;have hkind:∀ y∈ps.zip us,scope.names.lookup y.1=some .local\/(scope.names.lookup y.1=some .cell/\((cellsFrom (s.heap.objs.size+1) scope.names []).lookup y.1).isSome=true):=fun ⟨n,v⟩ hy=>by
  rcases S.par n (_bB hy).1 with q | q;·exact .inl q
  ·exact .inr ⟨q,_c6 _ _ _ (.inl q)⟩
 refine codeAny_call_function hr.depth (KX _ _ lk) rfl S.co S.gen rfl (W.codeRec_of KX hcd) (hb _ _ _ _ ?_);refine wpAny_newFunctionEnv_cells S.kind hkind fun env he s1 x=>?_;subst he;refine ⟨lim.keeps x.toInCall.keep,codeAny_func ?_⟩;obtain ⟨t,ht,hq⟩:=hbody A outer s H vs Q E (hr.deeper _) hsp;have I:Inv (z25 CX P w K mg base N qual scope f cdv A outer s H E) [] (start N vs) H s1:=z5N S e0 hl r x;refine _t (ht [] s1 (start N vs) H _ I hq) (fun fl s' hs=>?_) fun e s' hs=>hs;have fin:∀ {O':St} {H':Hp} {v:V} {u:Value},Inv (z25 CX P w K mg base N qual scope f cdv A outer s H E) [] O' H' s'->yu v u->Q v H'->CE outer P w H s Q u s':= fun {O' H' v u} J rv q=>⟨v,H',J.os,J.bare,J.base,J.hok,rv,q⟩;cases fl with
 | ret u=>
  obtain ⟨v,O',H',J,rv,q⟩:=hs;exact fin J rv q | next=>
  obtain ⟨O',H',J,q⟩:=hs;exact fin (v:=V.non) (u:=Value.none) J rfl q | brk=>
  obtain ⟨_,_,_,q⟩:=hs;exact False.elim q | cont=>
  obtain ⟨_,_,_,q⟩:=hs;exact False.elim q
section
variable {X:Cx}{CX:CXT}{k:Nat}{f:Addr}{fd:FuncData}{ps:List Str}{sp:Sp}{ds:List Value}{dvs:List V}{E:XK}{x:Str}{p pos:Pos}{e:Expr}{es:List Expr}{t:TA}
theorem zfk{pins:List (Addr×Obj)}{O:St}{H:Hp}{s:Shared}{Q:VK}{us:List Value}{vs:List V}(F:zbg X.prog X.w X.K X.mg X.base CX k f fd ps sp)(hr:uy k X.A)(hb:Binds X.K fd ps ds)(hd:ym dvs ds)(hx:Passes CX X E) (I:Inv X pins O H s)(r:ym vs us)(h:sp (vs++dvs) H Q E):wpAny (model X.prog X.w) X.A (call (.ref f) us) (EP X pins O Q) X.xe s:=by
 have r2:ym (vs++dvs) (us++ds):=r.append hd;have hl:(us++ds).length=ps.length:=by rw [<- r2.length];exact F.len _ _ _ _ h
 refine wpAny_call (_co (F.run X.A X.stack s H ⟨us,[]⟩ (us++ds) (vs++dvs) Q E hr I.env0 (hb s us I.kIn hl) r2 h) fun r s' hq=>?_);cases r with
 | error e=>exact hx pins O H s e s' I hq | ok fl=> cases fl with
  | ret u=>exact I.after hq | next=>exact False.elim hq | brk=>exact False.elim hq | cont=>exact False.elim hq
theorem zcg (F:zbg X.prog X.w X.K X.mg X.base CX k f fd ps sp) (hr:uy k X.A) (hg:Gl X x) (hm:X.mg x=some (.ref f)) (hk:W.keepIn X.K (.ref f)=true) (hb:Binds X.K fd ps ds) (hd:ym dvs ds) (hx:Passes CX X E) (ha:PA X (e::es) t) (hdb:(x==("__debug__":Str))=false:=by decide) (he:starEach (e::es) X.env=(false,eval e X.env)::starEach es X.env:=by rfl) (hpl:(backTo pos (starEach es X.env)).any (·.1)=false:=by rfl): PE X (.Call (.Name x p) (e::es) [] pos) (zfc sp dvs E t):=by
 intro pins s O H Q I h;refine _ax (z0v I hg hm ?_ hdb);refine W.callWith_K (h₀:=X.base) I.ok.mod.kin hk (thn (ha pos pins s O H _ I h) fun us s1 ⟨vs,H1,I1,r,q⟩=>⟨I1.kIn,?_⟩) he hpl;exact zfk F hr hb hd hx I1 r q
end
section
variable {P:Program}{w:World}{K:W.Frag}{mg:Str->Option Value}{base:Heap}
theorem Fun.okH{x qual:Str}{st:Stmt}{f:Addr}{fd:FuncData}{N ps:List Str}{k:Nat}{sp:Sp}(F:Fun K x qual st f fd)(S:zr N ps (ze st))(len:∀ vs H Q E,sp vs H Q E->vs.length=ps.length) (hbody:∀ (cdv:Value)(A:Around)(outer:List Env)(s:Shared)(H:Hp)(vs:List V)(Q:VK)(E:XK),uy k (A.deeper (envOfC qual (ze st) s.heap.objs.size f cdv))->sp vs H Q E-> ∃ t,PSs (z25 CX0 P w K mg base N qual (ze st) f cdv A outer s H E).nox (wV st) t/\t {nx:=fun _ H'=>Q .non H',rt:=Q} (start N vs) H):zbg P w K mg base CX0 (k+1) f fd ps sp:=by
 obtain ⟨oc,od,kV,doc,pm,an,cdv,ct,osl,rfl,lk,hcd⟩:=F.ex;refine zgM lk hcd S len fun A outer s H vs Q E hr hsp=>?_;obtain ⟨t,h,q⟩:=hbody cdv A outer s H vs Q E hr hsp;exact ⟨t,h.nox,q⟩
end
end L2
namespace Dd
open L2
def zje(P:Program)(w:World)(K:W.Frag)(mg:Str->Option Value)(base:Heap)(CX:CXT)(x:Str)(n:Nat)(M:Mir):Prop:= ∃ f fd ps,zbg P w K mg base CX n f fd ps (zdV ⟨mg,K⟩ M)/\Binds K fd ps []/\W.keepIn K (.ref f)=true/\mg x=some (.ref f)
section
variable {X:Cx}{E:XK}{e:Expr}{es:List Expr}{pos:Pos}{CX:CXT}
theorem zgn {x:Str} {p:Pos} {n:Nat} {M:Mir} {f:FA} (F:zje X.prog X.w X.K X.mg X.base CX x n M) (hr:uy n X.A) (hx:Passes CX X E) (hg:Gl X x) (ha:RA X E (e::es) f) (hdb:(x==("__debug__":Str))=false:=by decide) (he:starEach (e::es) X.env=(false,eval e X.env)::starEach es X.env:=by rfl) (hpl:(backTo pos (starEach es X.env)).any (·.1)=false:=by rfl):RE X E (.Call (.Name x p) (e::es) [] pos) (zg M f):=by
 obtain ⟨fa,fd,ps,F,hb,hk,hm⟩:=F;refine zE (zcg F hr hg hm hk hb .nil hx ha hdb he hpl) fun O H Q ⟨Y,Z,s,r,en,h⟩=>?_;refine uL (k:=fun Z xs s1=>M xs s1) r en h _ fun vs H2 Y2 s2 ds r2 en2 dn2 stp2 h3=>?_;rw [_aP];exact ⟨Y2,s2,ds,r2,dn2,h3⟩
end
section
variable {P:Program}{w:World}{K:W.Frag}{mg:Str->Option Value}{base:Heap}
theorem zfD{x qual:Str}{st:Stmt}{f:Addr}{fd:FuncData}{N ps:List Str}{k n:Nat}{fs:FS}(F:Fun K x qual st f fd)(hm:mg x=some (.ref f))(hb:Binds K fd ps [])(S:zr N ps (ze st))(hn:ps.length=n) (body:∀ (cdv:Value)(A:Around)(outer:List Env)(s:Shared)(H:Hp)(E:XK),uy k (A.deeper (envOfC qual (ze st) s.heap.objs.size f cdv))-> RSs (z25 CX0 P w K mg base N qual (ze st) f cdv A outer s H E).nox E0 (wV st) fs):zje P w K mg base CX0 x (k+1) (Mof N n fs):=by
 subst hn;refine ⟨f,fd,ps,F.okH S (fun vs H Q E h=>?_) (fun cdv A outer s H vs Q E hr h=>?_),hb,F.kp,hm⟩
 ·obtain ⟨Y,s,ds,_,dn,h⟩:=h;unfold Mof at h;split at h;·rename_i e;rw [dn.length];exact e
  ·exact h.elim
 ·obtain ⟨Y,st0,ds,r,dn,h⟩:=h;refine ⟨_,body cdv A outer s H E hr,Y,zt N ds,st0,r,ji dn,?_⟩;unfold Mof at h;split at h
  ·split at h
   ·rename_i d s' e;rw [e];intro fv H' Y' stp fd;cases fv with
    | rt v=>exact h v H' Y' stp fd | _=>exact (show False from fd).elim
   ·rename_i Z s' e;rw [e];intro fv H' Y' stp fd;cases fv with
    | nx v=>exact h .non H' Y' stp (by simp [Den]) | _=>exact (show False from fd).elim
   ·exact h.elim
  ·exact h.elim
end
theorem z0P{X:Cx}:xK X (.builtin "isinstance") (fun xs H Q=>∃ (a C:Addr)(y:V)(b:Bool),xs=[.ref a,y]/\H a=some (zcG C a)/\PySem.ExcCls X.K C/\(∀ c,yu y c->W.kitOne X.K (.ref C) c=some b)/\Q (.bl b) H):=by
 intro pins s O H xs us Q I r h;obtain ⟨a,C,y,b,rfl,ha,hc,hk,q⟩:=h;obtain ⟨u,v,rfl,ru,rv⟩:=vals2 r;cases ru;obtain ⟨⟨o,vs,h1,h2,_⟩,_⟩:=(show yj X.prog X.w H s.heap a (zcG C a) from I.hok a _ ha);exact _bd (PySem.zcB hc) I.kIn ⟨o,h1,h2⟩ (hk v rv) (fun z=>nomatch z) fun tk=>⟨.bl b,H,I.tok _,rfl,q⟩
structure z5t(mg:Gm)(rs cs:List Str):Prop where
 cls:∀ c∈rs,∀ C,mg.m c=some (.ref C)->PySem.ExcCls mg.K C
 has:∀ d∈cs,∃ D,mg.m d=some (.ref D)
 one:∀ c∈rs,∀ d∈cs,∀ C D,mg.m c=some (.ref C)->mg.m d=some (.ref D)->W.kitOne mg.K (.ref C) (.ref D)=some (c==d)
 val:∀ c∈rs,∀ C,mg.m c=some (.ref C)->W.kitOne mg.K (.ref C) (.type "ValueError")=some true
def zjY(rs:List Str)(T:Str):D->Sto->R D
 | .exc c,s=>if c∈rs then .ok (.bl (c==T)) s else .no | _,_=>.no
def z4Y(rs:List Str)(T:Str)(f:FE):FE:=fun Z s=>(f Z s).bind fun d s1=>zjY rs T d s1
def zjZ(rs:List Str):D->Sto->R D
 | .exc c,s=>if c∈rs then .ok (.bl true) s else .no | _,_=>.no
def zkU(rs:List Str)(f:FE):FE:=fun Z s=>(f Z s).bind fun d s1=>zjZ rs d s1
section
variable {X:Cx}{E:XK}{e:Expr}{pos:Pos}
theorem qQ{p p2:Pos}{T:Str}{rs cs:List Str}{f:FE}(FM:z5t (gm X) rs cs)(hT:T∈cs)(hg:Gl X "isinstance")(hm:X.mg "isinstance"=none)(hg2:Gl X T)(he:RE X E e f) (hd:(T==("__debug__":Str))=false:=by decide) (hs:starEach [e,.Name T p2] X.env=(false,eval e X.env)::starEach [.Name T p2] X.env:=by rfl)(hpl:(backTo pos (starEach [.Name T p2] X.env)).any (·.1)=false:=by rfl):RE X E (.Call (.Name "isinstance" p) [e,.Name T p2] [] pos) (z4Y rs T f):=by
 obtain ⟨D,hD⟩:=FM.has T hT;exact zE (jl z0P hg hm (by decide +kernel) (yT he (yT (z4A hg2 hD (show yu (.ref D) (.ref D) from rfl) hd) ux (zy ..)) hs) (by decide) (by decide) hs hpl) fun O H Q ⟨Y,Z,s,r,en,h⟩=>by
  refine zB (k:=fun Z d s1=>zjY rs T d s1) r en h _ fun v H1 Y1 s1 d r1 en1 dn stp h1=>?_;unfold zjY at h1;split at h1
  ·rename_i c;split at h1
   ·rename_i hc;simp only [Den] at dn;obtain ⟨a,C,rfl,hC,hH⟩:=dn;exact ⟨a,C,.ref D,c==T,rfl,hH,FM.cls c hc C hC,fun z hz=>by cases hz;exact FM.one c hc T hT C D hC hD,okR.here (b:=V.bl (c==T)) h1 r1 yX⟩
   ·exact h1.elim
  ·exact h1.elim
theorem zjw{p p2:Pos}{rs cs:List Str}{f:FE}(FM:z5t (gm X) rs cs)(hg:Gl X "isinstance")(hm:X.mg "isinstance"=none)(hg2:Gl X "ValueError")(hm2:X.mg "ValueError"=none)(he:RE X E e f) (hs:starEach [e,.Name "ValueError" p2] X.env=(false,eval e X.env)::starEach [.Name "ValueError" p2] X.env:=by rfl)(hpl:(backTo pos (starEach [.Name "ValueError" p2] X.env)).any (·.1)=false:=by rfl):RE X E (.Call (.Name "isinstance" p) [e,.Name "ValueError" p2] [] pos) (zkU rs f):= zE (jl z0P hg hm (by decide +kernel) (yT he (yT (z4p hg2 hm2 (by decide +kernel) (show yu (.ty "ValueError") (.type "ValueError") from rfl)) ux (zy ..)) hs) (by decide) (by decide) hs hpl) fun O H Q ⟨Y,Z,s,r,en,h⟩=>by
  refine zB (k:=fun Z d s1=>zjZ rs d s1) r en h _ fun v H1 Y1 s1 d r1 en1 dn stp h1=>?_;unfold zjZ at h1;split at h1
  ·rename_i c;split at h1
   ·rename_i hc;simp only [Den] at dn;obtain ⟨a,C,rfl,hC,hH⟩:=dn;exact ⟨a,C,.ty "ValueError",true,rfl,hH,FM.cls c hc C hC,fun z hz=>by cases hz;exact FM.val c hc C hC,okR.here (b:=V.bl true) h1 r1 yX⟩
   ·exact h1.elim
  ·exact h1.elim
end
end Dd
namespace PySem
open PySem.AutoSeq1 (wpAny_loadPart')
open MeetsSeq MeetsSeq2 SeqAt
end PySem
namespace L2
end L2
namespace Dd
open L2
end Dd
namespace L2
section
variable {X:Cx}{pos:Pos}
theorem Inv.far{pins:List (Addr×Obj)}{O:St}{H:Hp}{s:Shared}(I:Inv X pins O H s):(s.heap.objs.size==sysModules)=false:=by
 obtain ⟨o,es,ep,h,_⟩:=I.mod.glob.keeps I.bk;have h1:(mainGlobals:Nat)<s.heap.objs.size:=_l h;have e1:(1:Nat)<=(mainGlobals:Nat):=by decide
 have h2:(1:Nat)<s.heap.objs.size:=Nat.lt_of_le_of_lt e1 h1;have h3:s.heap.objs.size≠(1:Nat):=_cn h2;exact beq_false_of_ne h3
def zjT:TE:=fun _ H Q=>∀ p,H p=none->Q (.ref p) (upd H p (.dK []))
theorem zfC:PE X (.Dict [] [] pos) zjT:=by
 intro pins s O H Q I hq;refine wpAny_Dict_empty ?_;refine ⟨.ref s.heap.objs.size,upd H s.heap.objs.size (.dK []),I.laid (o:=.dK []) (t':=s.toks) (fun b u e=>_d _ e) (_g _) ⟨_ae _,I.far,[],?_,Heap.DictOf.new _⟩,rfl,hq _ (I.hok.fresh (_g _))⟩;constructor
end
end L2
namespace Dd
open L2
section
variable {X:Cx}{E:XK}{pos:Pos}
theorem zjs:RE X E (.Dict [] [] pos) (eC .dct):= zE zfC fun O H Q ⟨Y,Z,s,r,en,h⟩=>fun p hp=>by
  have stp:=xr.lay (o:=.dK []) r hp (by intro _ z;cases z);exact h _ _ _ stp (by simp only [Den];exact ⟨p,rfl,zC⟩)
end
structure XOk(K:W.Frag)(C:Addr):Prop where
 exc:W.excIn K C bmV "ValueError.__new__"=true
 cls:PySem.ExcCls K C
 val:W.kitOne K (.ref C) (.type "ValueError")=some true
theorem z5Z{K:W.Frag}{C:Addr}(h:z2n K C=true):∃ d cd sl,K.lookup C=some ⟨.type "type",d,.cls cd,sl⟩:=by
 unfold z2n at h;split at h
 ·rename_i t d cd sl e;have:=_ay.mp h;subst this;exact ⟨_,_,_,e⟩
 ·cases h
theorem vM{K:W.Frag}{x:Str}(h:z3S K x=true):∃ C,W.nsIn K mainGlobals x=some (some (.ref C))/\XOk K C:=by
 unfold z3S at h;split at h
 ·rename_i C e;simp only [_E] at h;obtain ⟨h1,h2,h3,h4,h5,h6,h7,h8⟩:=h;exact ⟨C,e,h1,⟨_ay.mp h2,_ay.mp h3,_ay.mp h4,_ay.mp h5,_ay.mp h6,z5Z h7⟩,_ay.mp h8⟩
 ·cases h
section
variable {K:W.Frag}{mg:Str->Option Value}(G:∀ (x:Str)(v:Value),W.nsIn K mainGlobals x=some (some v)->mg x=some v)
include G
theorem z6L{x:Str}(h:z3S K x=true):zdJ K mg x:=by
 obtain ⟨C,e,o⟩:=vM h;exact ⟨C,G x _ e,o.exc⟩
theorem za7{rs cs:List Str}(hr:∀ x∈rs,z3S K x=true)(hc:∀ y∈cs,z3S K y=true)(h:∀ x∈rs,∀ y∈cs,(z3l K x y).map (·.2)=some (some (x==y))):z5t ⟨mg,K⟩ rs cs:=by
 have un:∀ x C D,W.nsIn K mainGlobals x=some (some (.ref D))->mg x=some (.ref C)->C=D:=fun x C D e m=>by
  have:=G x _ e;rw [m] at this;cases this;rfl
 refine ⟨fun c hcm C m=>?_,fun d hd=>?_,fun c hcm d hd C D mC mD=>?_,fun c hcm C m=>?_⟩
 ·obtain ⟨D,e,o⟩:=vM (hr c hcm);cases un c C D e m;exact o.cls
 ·obtain ⟨D,e,o⟩:=vM (hc d hd);exact ⟨D,G d _ e⟩
 ·obtain ⟨C',e1,_⟩:=vM (hr c hcm);obtain ⟨D',e2,_⟩:=vM (hc d hd);cases un c C C' e1 mC;cases un d D D' e2 mD;have q:=h c hcm d hd;unfold z3l at q;rw [e1,e2] at q;simpa using q
 ·obtain ⟨D,e,o⟩:=vM (hr c hcm);cases un c C D e m;exact o.val
theorem zgp{x y:Str}(hx:z3S K x=true)(hy:z3S K y=true)(h:(z3l K x y).map (·.1)=some (some true)):zjd K mg x y:=by
 obtain ⟨C,e1,o1⟩:=vM hx;obtain ⟨D,e2,o2⟩:=vM hy;refine ⟨C,D,G x _ e1,G y _ e2,o1.exc,o2.exc,fun h₀ X=>?_⟩;unfold z3l at h;rw [e1,e2] at h;have hm:W.mroIn K C (.ref D)=some true:=by simpa using h
 obtain ⟨bm,N,nm,q,bs,hdct,sn,sub,ab,col,dd,k0,k1,k2,k3,k5,mN,hC,_⟩:=zbI X o1.exc;refine ⟨bm,N,nm,q,bs,hdct,sn,sub,ab,col,dd,k0,k1,k2,k3,k5,hC,?_⟩;obtain ⟨d',cd',sl',hl⟩:=o1.cls.ty;have h2:=X _ _ hl;rw [hC] at h2;unfold W.mroIn W.clsIn at hm;rw [hl] at hm;simp only [_J] at hm;split at hm;·cases hm
 ·unfold excClassObj at h2;simp only [_w,Obj.mk.injEq,Data.cls.injEq] at h2;obtain ⟨_,_,h3,_⟩:=h2;have h4:cd'.mro=Value.ref C::bm:=by rw [<- h3]
  rw [h4] at hm;simpa using hm
end
theorem z6V{q:Ask}{w:World}{K:W.Frag}(e:z9x q K=valS q w)(x:Str)(hx:x∈q.xs):z3S K x=true:=z3I (_aC (fun z=>z.2.2.2.2.2.1) e) x hx
theorem ziY{q:Ask}{w:World}{K:W.Frag}(e:z9x q K=valS q w)(x y:Str)(b:Bool)(hx:((x,y),b)∈q.ps):z3l K x y=some (some b,some b):=z3I (_aC (fun z=>z.2.2.2.2.2.2) e) ((x,y),b) hx
theorem zkn{k:Nat}{A:Around}{e:Option Value}(r:uy k A):uy k (A.mark e):=⟨r.dp,r.un,r.gd⟩
def LeS(f g:FS):Prop:=∀ Z s a s',f Z s=.ok a s'->g Z s=.ok a s'
def LeM(M N:Mir):Prop:=∀ ds s d s',M ds s=.ok d s'->N ds s=.ok d s'
theorem LeS.rfl{f:FS}:LeS f f:=fun _ _ _ _ h=>h
theorem LeS.no{f g:FS}(h:LeS f g):LeS f (z2Y g):=fun Z s a s' e=>by rw [zfJ,h Z s a s' e]
theorem LeS.calm{f:FS}:LeS f (z2Y f):=LeS.rfl.no
theorem LeS.fNo{g:FS}:LeS fNo g:=fun _ _ _ _ h=>by cases h
theorem LeM.mof{N:List Str}{n:Nat}{f g:FS}(h:LeS f g):LeM (Mof N n f) (z3E N n g):=fun ds s d s' e=>by
 unfold Mof at e;unfold z3E;split at e
 ·rename_i hl;rw [_f hl];split at e
  ·rename_i d' s1 e1;rw [h _ _ _ _ e1];exact e
  ·rename_i Z s1 e1;rw [h _ _ _ _ e1];exact e
  ·cases e
 ·cases e
def LeE(f g:FE):Prop:=∀ Z s a s',f Z s=.ok a s'->g Z s=.ok a s'
theorem kq{α β:Type}{r:R α}{k:α->Sto->R β}{b:β}{s':Sto}(h:r.bind k=.ok b s'):∃ a s1,r=.ok a s1/\k a s1=.ok b s':=by cases r with
 | ok a s=>exact ⟨a,s,Eq.refl _,h⟩ | ex c s=>cases h | no=>cases h
theorem LeS.seq{f f' g g':FS}(h:LeS f f')(h2:LeS g g'):LeS (zn f g) (zn f' g'):=fun Z s a s' e=>by
 obtain ⟨fl,s1,e1,e2⟩:=kq e;show (f' Z s).bind _=_;rw [h _ _ _ _ e1,Rb];cases fl with
 | nx Z'=>exact h2 _ _ _ _ e2 | _=>exact e2
theorem LeS.drop{f f':FE}(h:LeE f f'):LeS (wS f) (wS f'):=fun Z s a s' e=>by
 obtain ⟨d,s1,e1,e2⟩:=kq e;show (f' Z s).bind _=_;rw [h _ _ _ _ e1,Rb];exact e2
theorem LeS.set{i:Nat}{f f':FE}(h:LeE f f'):LeS (yt i f) (yt i f'):=fun Z s a s' e=>by
 obtain ⟨d,s1,e1,e2⟩:=kq e;show (f' Z s).bind _=_;rw [h _ _ _ _ e1,Rb];exact e2
theorem LeE.call{M M':Mir}{f:FA}(h:LeM M M'):LeE (zg M f) (zg M' f):=fun Z s a s' e=>by
 obtain ⟨d,s1,e1,e2⟩:=kq e;show (f Z s).bind _=_;rw [e1,Rb];exact h _ _ _ _ e2
theorem LeS.if_{t:FT}{f f' g g':FS}(h:LeS f f')(h2:LeS g g'):LeS (fIf t f g) (fIf t f' g'):=fun Z s a s' e=>by
 obtain ⟨d,s1,e1,e2⟩:=kq e;show (t Z s).bind _=_;rw [e1,Rb];cases d with
 | true=>exact h _ _ _ _ e2 | false=>exact h2 _ _ _ _ e2
theorem LeM.ok{M N:Mir}(h:LeM M N){ds:List D}{s s':Sto}{d:D}(e:M ds s=.ok d s'):N ds s=.ok d s':=h ds s d s' e
end Dd
namespace PySem
end PySem
namespace L2
end L2
namespace Dd
open L2
open PySem.W
def kev{α:Type}(n:Nat)(lt:Nat->Nat->Bool):KasT α->Option α
 | .ret a=>some a | .ask i j k=>if i<n/\j<n then kev n lt (k (lt i j)) else none
theorem z8u{α:Type}{n:Nat}{lt:Nat->Nat->Bool}{cmp:Nat->Nat->(Bool->Shared->Prop)->Shared->Prop}{Q:α->Shared->Prop}{s:Shared}(hc:∀ i j C,i<n->j<n->C (lt i j) s->cmp i j C s): ∀ (t:KasT α)(a:α),kev n lt t=some a->Q a s->t.kasWp cmp Q s
 | .ret a,b,e,h=>by
  simp only [kev,_w] at e;subst e;exact h | .ask i j k,b,e,h=>by
  unfold kev at e;split at e
  ·rename_i hij;exact hc i j _ hij.1 hij.2 (z8u hc (k (lt i j)) b e h)
  ·cases e
def lexLt(p q:Int×Int):Bool:=if p.1=q.1 then (if p.2=q.2 then false else decide (p.2<q.2)) else decide (p.1<q.1)
def z8y(h:Heap)(v:Value)(p:Int×Int):Prop:=∃ a o n t u,v=.ref a/\h.get? a=some o/\o.cls=.type "tuple"/\o.data=.seq #[.int p.1 t,.int p.2 u] n
inductive xi (h:Heap):List Value->List (Int×Int)->Prop | nil:xi h [] [] | cons {v p vs ps}:z8y h v p->xi h vs ps->xi h (v::vs) (p::ps)
theorem xi.length{h:Heap}:∀ {vs ps},xi h vs ps->vs.length=ps.length
 | _,_,.nil=>rfl | _,_,.cons _ r=>by simp [r.length]
theorem xi.at_{h:Heap}:∀ {vs ps},xi h vs ps->∀ i,i<ps.length->z8y h (vs.getD i .none) (ps.getD i (0,0))
 | _,_,.nil,i,hi=>by simp at hi | _,_,.cons p r,0,_=>by simpa using p | _,_,.cons p r,i+1,hi=>by simpa using r.at_ i (by simpa using hi)
theorem xi.mono{h h':Heap}(k:∀ b o,h.get? b=some o->h'.get? b=some o):∀ {vs ps},xi h vs ps->xi h' vs ps
 | _,_,.nil=>.nil | _,_,.cons ⟨a,o,n,t,u,e,g,c,d⟩ r=>.cons ⟨a,o,n,t,u,e,k _ _ g,c,d⟩ (r.mono k)
theorem xi.tups{h:Heap}:∀ {vs ps},xi h vs ps->∃ fs,KatTups h vs fs/\fs.length=ps.length/\∀ v∈fs,∃ i t,v=.int i t
 | _,_,.nil=>⟨[],KatTups.nil,rfl,fun v hv=>by cases hv⟩ | _,_,.cons (p:=p) ⟨a,o,n,t,u,e,g,c,d⟩ r=>by
  obtain ⟨fs,k,l,m⟩:=r.tups;subst e;refine ⟨.int p.1 t::fs,KatTups.cons g c d rfl k,by simp [l],fun v hv=>?_⟩;rcases _z.mp hv with rfl | hv;·exact ⟨_,_,rfl⟩
  ·exact m v hv
section
variable {prog:Program}{w:World}{A:Around}{E:Value->Shared->Prop}{s:Shared}
theorem zfh{v u:Value}{p q:Int×Int}{C:Bool->Shared->Prop}(hv:z8y s.heap v p)(hu:z8y s.heap u q)(h:C (lexLt p q) s):wpAny (model prog w) A (keyLt' (tuples' true) v u) C E s:=by
 obtain ⟨a,o,n,t,t',rfl,g,c,d⟩:=hv;obtain ⟨b,o',n',x,x',rfl,g',c',d'⟩:=hu;refine kat_lt g d g' d' (kat_cons (_bX (kat_go (fun e=>kat_yes (kat_cons (_bX (kat_go (fun e2=>kat_yes (kat_nil ?_)) fun e2=>kat_no ?_)))) fun e=>kat_no ?_)))
 ·have e1:p.1=q.1:=by simpa using e
  have e3:p.2=q.2:=by simpa using e2
  simpa [lexLt,e1,e3] using h
 ·have e1:p.1=q.1:=by simpa using e
  have e3:¬ p.2=q.2:=by simpa using e2
  refine kat_one _ _ (PyProof.Rows.lt_int ?_);show C _ s;simpa [lexLt,e1,e3] using h
 ·have e1:¬ p.1=q.1:=by simpa using e
  have hb:(true&&((0:Nat)==0))=true:=rfl;rw [hb];refine oneLt_int ?_;simpa [lexLt,e1] using h
theorem z93{vs:List Value}{ps:List (Int×Int)}{Q:SortKind->Shared->Prop}(hp:xi s.heap vs ps)(h0:0<ps.length)(h:Q (tuples' true) s):wpAny (model prog w) A (keyKind' vs.toArray) Q E s:=by
 obtain ⟨fs,k,l,m⟩:=hp.tups;refine kat_kind (T:=.type "int") k (by rw [l];exact h0) (fun v hv=>?_) rfl h;obtain ⟨i,t,rfl⟩:=m v hv;exact Looks.of_pure rfl
def z2R(vs:List Value)(p:Array Nat):Array Value:=List.toArray (p.toList.map fun i=>vs.getD i Value.none)
theorem z6y {a:Addr} {vs:List Value} {ps:List (Int×Int)} {n:Nat} {p:Array Nat} {P:PySem.Fin->Shared->Prop} (ho:s.heap.get? a=some (seqObj "list" vs.toArray n)) (hp:∀ h',(∀ b o,b≠a->s.heap.get? b=some o->h'.get? b=some o)->xi h' vs ps) (h2:2<=vs.length) (h64:vs.length<64) (he:kev ps.length (fun i j=>lexLt (ps.getD i (0,0)) (ps.getD j (0,0))) (kas_sort ps.length)=some p) (h:P (.done (.ret .none)) {s with heap:=sortedHeap s.heap a vs (z2R vs p)}):wpAny (model prog w) A (Builtin.«list.sort» ⟨[.ref a],[]⟩) P E s:=by
 have ha:a<s.heap.objs.size:=_l ho;have hline:vs.length<=sizeLine:=by rw [_cI];omega
 have lenP:vs.length=ps.length:=(hp s.heap fun _ _ _ e=>e).length;obtain ⟨e1,g1⟩:∃ e1,(s.heap.update a (Obj.mapSeq fun _=>(#[]:Array Value))).get? a=some (seqObj "list" #[] e1):=⟨_,get?_update_seq ho fun _=>#[]⟩;have g2:(((s.heap.update a (Obj.mapSeq fun _=>(#[]:Array Value))).push (seqObj "tuple" vs.toArray 0)).push (seqObj "list" #[] 0)).get? a=some (seqObj "list" #[] e1):=_d _ (_d _ g1);have hp1:xi (((s.heap.update a (Obj.mapSeq fun _=>(#[]:Array Value))).push (seqObj "tuple" vs.toArray 0)).push (seqObj "list" #[] 0)) vs ps:=hp _ fun b o hb e=> _d _ (_d _ (((_ap s.heap a (Obj.mapSeq fun _=>(#[]:Array Value))).2 b hb).trans e));rw [list_sort_plain];refine _a (listItems_at ho rfl (_a (_b7 ho rfl (_a (_cR g1 rfl (_a (_cw (_a (_c2 (_au ?_) (_ae _))) hline)))) (by rw [_j];exact hline) (_ae _))));have big:¬ vs.toArray.size<2:=by rw [_j];omega
 dsimp only;rw [_q big,_q big];refine _a (z93 (s:={s with heap:=((s.heap.update a (Obj.mapSeq fun _=>(#[]:Array Value))).push (seqObj "tuple" vs.toArray 0)).push (seqObj "list" #[] 0)}) hp1 (by omega) ?_);refine _a (_t (kat_run (ks:=vs) (vs:=vs) (G:=fun q s'=>q=p/\s'={s with heap:=((s.heap.update a (Obj.mapSeq fun _=>(#[]:Array Value))).push (seqObj "tuple" vs.toArray 0)).push (seqObj "list" #[] 0)}) (Q:=fun st' s'=>∃ q:Array Nat,q.size=vs.length/\arrOf st'=q.map (kas_item (vs.toArray.zip vs.toArray))/\failedOf st'=none/\q=p/\s'={s with heap:=((s.heap.update a (Obj.mapSeq fun _=>(#[]:Array Value))).push (seqObj "tuple" vs.toArray 0)).push (seqObj "list" #[] 0)}) rfl h2 h64 (fun q st' s' a1 a2 a3 a4=>⟨q,a1,a2,a3,a4⟩) (z8u (n:=ps.length) (fun i j C hi hj hC=>?_) _ p (by rw [lenP];exact he) ⟨rfl,rfl⟩)) ?_ fun _ _ z=>z);·exact zfh (hp1.at_ i hi) (hp1.at_ j hj) hC
 rintro ⟨⟨⟩,st'⟩ s' ⟨q,hq,har,hf,rfl,rfl⟩;dsimp only;have out:=kat_snds (ks:=vs) (vs:=vs) rfl har;rw [out,hf];refine _a (_cR g2 rfl (_a (_b7 g2 rfl ?_ (_ae _) (by rw [_j,_B,_aR,hq];exact _cS hline))));simp only [_cT,_az,_ak];exact _c h
theorem z9E {l:Addr} {vs:List Value} {ps:List (Int×Int)} {p:Array Nat} {Q:Value->Shared->Prop} (hl:s.heap.IsList l vs.toArray) (hp:xi s.heap vs ps) (h2:2<=vs.length) (h64:vs.length<64) (he:kev ps.length (fun i j=>lexLt (ps.getD i (0,0)) (ps.getD j (0,0))) (kas_sort ps.length)=some p) (h:Q (.ref (s.heap.objs.size+1)) {s with heap:=sortedAll s.heap vs (z2R vs p)}): wpAny (model prog w) A (call (.builtin "sorted") [.ref l]) Q E s:=by
 have hline:vs.length<=sizeLine:=by rw [_cI];omega
 refine Calls.call_function_entry kind_sorted plain_sorted entry_sorted (args_sorted1 _) ?_;unfold Builtin.«sorted»;refine _a (m:=checkCount "sorted" 1 1 _) (_c (_a (collect_list hl (_a (_c2 ?_ (by rw [_cI];omega))) (by rw [_cI];omega))));have sz:((s.heap.push (seqObj "list" #[] 0)).update s.heap.objs.size (Obj.mapSeq (· ++ vs.toArray))).objs.size=s.heap.objs.size+1:=by rw [Heap.size_update,size_push']
 have g:(((s.heap.push (seqObj "list" #[] 0)).update s.heap.objs.size (Obj.mapSeq (· ++ vs.toArray))).push (seqObj "list" vs.toArray 0)).get? (s.heap.objs.size+1)=some (seqObj "list" vs.toArray 0):=by
  rw [<- sz];exact _h _ rfl
 have keep:∀ b o,s.heap.get? b=some o->(((s.heap.push (seqObj "list" #[] 0)).update s.heap.objs.size (Obj.mapSeq (· ++ vs.toArray))).push (seqObj "list" vs.toArray 0)).get? b=some o/\b≠s.heap.objs.size+1:=fun b o q=>by
  have lt:b<s.heap.objs.size:=_l q;refine ⟨?_,_x (_aj lt)⟩;rw [_bP _ _ _ (by rw [sz];exact _x (_aj lt)),Heap.get?_update_ne _ _ _ _ (_x lt),_bP _ _ _ (_x lt)];exact q
 show wpAny (model prog w) _ _ _ _ {s with heap:=((s.heap.push (seqObj "list" #[] 0)).update s.heap.objs.size (Obj.mapSeq (· ++ vs.toArray))).push (seqObj "list" vs.toArray 0)};rw [sz];exact _a (_au (_I slot_list_sort ⟨_,g,rfl⟩ entry_list_sort (z6y g (fun h' k=>hp.mono fun b o q=>k b o (keep b o q).2 (keep b o q).1) h2 h64 he ⟨_,rfl,_c ⟨_,rfl,h⟩⟩) (args_list_sort _)))
end
section
variable {X:Cx}{E:XK}
def z0F:List D->Option (List (Int×Int))
 | []=>some [] | .tup [.int a,.int b]::r=>(z0F r).map fun t=>(a,b)::t | _=>none
def zeM(K:W.Frag):List V->Hp->VK->Prop:=fun xs H Q=>∃ (l:Addr)(ys:List V)(ps:List (Int×Int))(p:Array Nat),xs=[.ref l]/\SqL K H l ys/\ys.length=ps.length/\2<=ys.length/\ys.length<64/\ (∀ i,i<ps.length->∃ a,ys[i]? = some (.ref a)/\SqT K H a [.int (ps.getD i (0,0)).1,.int (ps.getD i (0,0)).2])/\ kev ps.length (fun i j=>lexLt (ps.getD i (0,0)) (ps.getD j (0,0))) (kas_sort ps.length)=some p/\(∀ i∈p.toList,i<ys.length)/\p.toList.length=ys.length/\∀ r,H r=none->Q (.ref r) (upd H r (.lst (p.toList.map fun i=>ys.getD i .non)))
theorem z80{pins:List (Addr×Obj)}{O:L2.St}{H:Hp}{s:Shared}(I:Inv X pins O H s):∀ {ys:List V}{its:List Value}{ps:List (Int×Int)},ym ys its->ys.length=ps.length-> (∀ i,i<ps.length->∃ a,ys[i]? = some (.ref a)/\SqT X.K H a [.int (ps.getD i (0,0)).1,.int (ps.getD i (0,0)).2])->xi s.heap its ps
 | [],_,[],.nil,_,_=>.nil | [],_,_::_,_,l,_=>by simp at l | _::_,_,[],_,l,_=>by simp at l | y::ys,_,q::ps,.cons r rs,l,h=>by
  refine .cons ?_ (z80 I rs (by simpa using l) fun i hi=>by simpa using h (i+1) (by simpa using hi));obtain ⟨a,e,t⟩:=h 0 (by simp);simp only [_n,_w] at e;subst e;cases r;obtain ⟨its',r',pl,_⟩:=I.tuple t;obtain ⟨o,ho,hc,n,hd⟩:=pl;simp only [List.getD_cons_zero] at r';obtain ⟨u,us,rfl⟩:∃ u us,its'=u::us:=by cases r';exact ⟨_,_,rfl⟩
  cases r' with | cons r1 r2=>
   obtain ⟨t1,rfl⟩:=r1;obtain ⟨t2,rfl,t3,rfl⟩:=vals1 r2;exact ⟨a,o,n,t1,t3,rfl,ho,hc,hd⟩
theorem z5E:∀ {ys:List V}{its:List Value},ym ys its->∀ i,i<ys.length->yu (ys.getD i .non) (its.getD i .none)
 | [],_,.nil,i,hi=>by simp at hi | y::ys,_,.cons r rs,0,_=>by simpa using r | y::ys,_,.cons r rs,i+1,hi=>by simpa using z5E rs i (by simpa using hi)
theorem z3O{ys:List V}{its:List Value}(h:ym ys its):∀ (p:List Nat),(∀ i∈p,i<ys.length)->ym (p.map fun i=>ys.getD i .non) (p.map fun i=>its.getD i .none)
 | [],_=>.nil | i::p,hp=>.cons (z5E h i (hp i (.head _))) (z3O h p fun j hj=>hp j (.tail _ hj))
theorem z5D:xK X (.builtin "sorted") (zeM X.K):=by
 intro pins s O H xs us Q I r h;obtain ⟨l,ys,ps,p,rfl,hq,len,h2,h64,hps,he,hp,hpl,q⟩:=h;obtain ⟨u,rfl,rx⟩:=vals1 r;cases rx;obtain ⟨its,r',pl,hz⟩:=I.list hq;have hlen:=r'.length;refine z9E (ps:=ps) (p:=p) pl.isList (z80 I r' len hps) (by omega) (by omega) he ?_;obtain ⟨c',e⟩:=sortedAll_at s.heap its (z2R its p);refine ⟨.ref (s.heap.objs.size+1),_,I.laid (t':=s.toks) (fun b o z=>sortedAll_old z) (_cQ _) (show yj X.prog X.w _ (sortedAll s.heap its (z2R its p)) _ (.lst (p.toList.map fun i=>ys.getD i .non)) from ⟨?_,_,c',z3O r' p.toList hp,e⟩),rfl,q _ (I.hok.fresh (_cQ _))⟩;rw [_B,hpl];exact hz
def kZ:List D->Sto->R D
 | [d],s=>match listOf s d with
  | some xs=>match z0F xs with
   | some ps=>if 2<=xs.length/\xs.length<64 then match kev ps.length (fun i j=>lexLt (ps.getD i (0,0)) (ps.getD j (0,0))) (kas_sort ps.length) with
     | some p=>if p.toList.all (fun i=>decide (i<xs.length))=true/\p.toList.length=xs.length then .ok (.lst (p.toList.map fun i=>xs.getD i .non)) s else .no | none=>.no else .no | none=>.no
  | none=>.no
 | _,_=>.no
theorem z1V{mg:Gm}{H:Hp}{Y:List Addr}:∀ {xs:List D}{ps:List (Int×Int)}{vs:List V},z0F xs=some ps->zq mg H Y xs vs->xs.length=ps.length/\ ∀ i,i<ps.length->∃ a,vs[i]? = some (.ref a)/\SqT mg.K H a [.int (ps.getD i (0,0)).1,.int (ps.getD i (0,0)).2]
 | [],ps,vs,e,h=>by
  simp only [z0F,_w] at e;subst e;exact ⟨rfl,fun i hi=>by simp at hi⟩ | x::xs,ps,vs,e,h=>by
  unfold z0F at e;split at e;·simp at *
  ·rename_i a b r z;cases z;cases q:z0F xs with
   | none=>rw [q] at e;simp at e | some t=>
    rw [q] at e;simp only [_S,_w] at e;subst e;simp only [zq] at h;obtain ⟨v,ws,rfl,h1,h2⟩:=h;obtain ⟨l,k⟩:=z1V q h2;refine ⟨by simp [l],fun i hi=>?_⟩;cases i with
    | zero=>
     obtain ⟨c,us,rfl,q1,q2⟩:=qS (K:=mg.K) h1;obtain ⟨v1,v2,rfl,d1,d2⟩:=z6F q2;cases zQ d1;cases zQ d2;exact ⟨c,rfl,q1⟩ | succ i=>simpa using k i (by simpa using hi)
  ·cases e
theorem z6C{mg:Gm}{H:Hp}{Y:List Addr}:∀ {xs:List D}{vs:List V},zq mg H Y xs vs->∀ i,i<xs.length->Den mg H Y (xs.getD i .non) (vs.getD i .non)
 | [],_,_,i,hi=>by simp at hi | x::xs,vs,h,i,hi=>by
  simp only [zq] at h;obtain ⟨v,ws,rfl,h1,h2⟩:=h;cases i with
  | zero=>simpa using h1 | succ i=>simpa using z6C h2 i (by simpa using hi)
theorem z8j{mg:Gm}{H:Hp}{Y:List Addr}{xs:List D}{vs:List V}(h:zq mg H Y xs vs):∀ (p:List Nat),(∀ i∈p,i<xs.length)->zq mg H Y (p.map fun i=>xs.getD i .non) (p.map fun i=>vs.getD i .non)
 | [],_=>by simp [zq] | i::p,hp=>by
  simp only [_s,zq];exact ⟨_,_,rfl,z6C h i (hp i (.head _)),z8j h p fun j hj=>hp j (.tail _ hj)⟩
theorem zch:∃ r,xK X (.builtin "sorted") r/\z1j X E r kZ:=⟨_,z5D.freeze,fun H Y s ds vs Q r hd h=>by
 unfold kZ at h;split at h
 ·split at h
  ·rename_i d xs e;split at h
   ·rename_i ps eps;split at h
    ·rename_i h2;split at h
     ·rename_i p ep;split at h
      ·rename_i hp;obtain ⟨v,rfl,dn⟩:=z1P hd;obtain ⟨a,ws,rfl,q1,q2⟩:=zJ r e dn;obtain ⟨l,k⟩:=z1V eps q2;have hl:=q2.length;have hin:∀ i∈p.toList,i<xs.length:=fun i hi=>by simpa using _bg.mp hp.1 i hi
       exact ⟨a,ws,ps,p,rfl,.inl q1,by omega,by omega,by omega,k,ep,fun i hi=>by have:=hin i hi;omega,by rw [hp.2];omega,kb r h (z8j q2 _ hin)⟩
      ·exact h.elim
     ·exact h.elim
    ·exact h.elim
   ·exact h.elim
  ·exact h.elim
 ·exact h.elim⟩
end
end Dd
namespace L2
section
variable {X:Cx}{v1 v2 e:Expr}{t1 t2 te:TE}{k1 k2:Str}{apos cpos dpos p1 p2:Pos}{j1 j2:Nat}
theorem zbF(hk:k1≠k2)(h1:PE X v1 t1)(h2:PE X v2 t2)(he:PE X e te) (hbase:attributeBase (.Dict [some (.Constant (.str k1) j1 p1),some (.Constant (.str k2) j2 p2)] [v1,v2] dpos) "get" X.env (eval (.Dict [some (.Constant (.str k1) j1 p1),some (.Constant (.str k2) j2 p2)] [v1,v2] dpos) X.env) = eval (.Dict [some (.Constant (.str k1) j1 p1),some (.Constant (.str k2) j2 p2)] [v1,v2] dpos) X.env:=by rfl) (hfew:((backTo cpos (starEach [e] X.env)).all (fun x=>!x.1)&&(backToKw cpos (keywordEach [] X.env)).all (fun x=>x.1.isSome) && decide ([e].length+([]:List Keyword).length+(if ([]:List Keyword).isEmpty then 0 else 1)<30))=true:=by rfl) (hline:(apos.endLine==cpos.line)=true:=by rfl)(hs:backTo cpos (starEach [e] X.env)=[(false,eval e X.env)]:=by rfl): PE X (.Call (.Attribute (.Dict [some (.Constant (.str k1) j1 p1),some (.Constant (.str k2) j2 p2)] [v1,v2] dpos) "get" apos) [e] [] cpos) (fun O H Q=>t1 O H fun x1 H1=>t2 O H1 fun x2 H2=>te O H2 fun y H3=>∃ k,y=.str k/\Q (if k=k1 then x1 else if k=k2 then x2 else .non) H3):=by
 intro pins s O H Q I h;refine _bN hbase hfew hline hs (wpAny_Dict_walk (knd:=strKind X.prog X.w) rfl rfl (by simp) (Nat.le_of_ble_eq_true rfl) ?_);have far:=I.far;have I0:Inv X pins O H {s with heap:=s.heap.push {cls:=.type "dict",data:=.dict #[]}}:=I.kept (t':=s.toks) fun b u z=>_d _ z;have fp:∀ b∈[s.heap.objs.size],z2G X pins H b:=fun b hb=>by
  cases _Z.mp hb;exact I.fpOk (_g _) (I.hok.fresh (_g _))
 have g0:(s.heap.push {cls:=.type "dict",data:=.dict #[]}).get? s.heap.objs.size=some {cls:=.type "dict",data:=.dict #[]}:=_h _ rfl;have I1:=I0.pinned fp fun b hb=>by
  cases _Z.mp hb;exact ⟨_,g0,by intro v z;cases z⟩
 have d0:(s.heap.push {cls:=.type "dict",data:=.dict #[]}).DictOf (strKind X.prog X.w) s.heap.objs.size []:=Heap.DictOf.new _;refine pairTrees_cons_walk (_cs (thn (h1 _ _ O H _ (I1.tok _) h) fun u1 s1 ⟨x1,H1,I2,r1,q1⟩=>?_));refine pairTrees_cons_walk (_cs (thn (h2 _ _ O H1 _ (I2.tok _) q1) fun u2 s2 ⟨x2,H2,I3,r2,q2⟩=>pairTrees_nil_walk ?_));have pin:=I3.pin _ (_p _ (_p _ (wC (.head _) g0)));refine ⟨[(k1,u1),(k2,u2)],⟨strKind_is _ _ _ _,rfl,strKind_is _ _ _ _,rfl,True.intro⟩,d0.at fun o z=>?_,fun h' dd sb=>?_⟩
 ·rw [g0] at z;cases z;exact pin.1
 have em:merged ([]:List (Str×Value)) [(k1,u1),(k2,u2)]=[(k1,u1),(k2,u2)]:=by simp [merged,stored,hk]
 rw [em] at dd;obtain ⟨f0,f1,f2,f3,f4,f5⟩:=fp _ (.head _);have I4:Inv X pins O H2 {s2 with heap:=h',toks:=s2.toks+2}:=I3.unpinned.turned (it:=s.heap.objs.size) (fun b o hb z=>(sb.2 b hb).trans z) pin.2.1 pin.2.2.1 f3 f4 f5;obtain ⟨od,es,ep,ho,hx,hd,_⟩:=dd;have fp2:∀ b∈[s.heap.objs.size],z2G X pins H2 b:=fun b hb=>by
  cases _Z.mp hb;exact ⟨pin.2.1,f1,f2,f3,f4,f5⟩
 have I5:=I4.pinned fp2 fun b hb=>by
  cases _Z.mp hb;exact ⟨_,ho,by intro v z;rw [hd] at z;cases z⟩
 have dd:h'.DictOf (strKind X.prog X.w) s.heap.objs.size [(k1,u1),(k2,u2)]:=⟨od,es,ep,ho,hx,hd,by assumption⟩;refine ⟨"dict","dict.get",_bI,_aY,PySem.F.type_dict_get,Heap.DictOf.typeIs (s:={s2 with heap:=h',toks:=s2.toks+2}) dd,fun a z=>?_,?_⟩
 ·cases z;exact ⟨od,ho,hx.2.1⟩
 refine _aS rfl (_a6 (_bE (thn (he _ _ O H2 _ I5 q2) fun u3 s3 ⟨y,H3,I6,r3,k,ey,q3⟩=>_cJ ?_)));subst ey;obtain ⟨t,rfl⟩:=r3;have pin2:=I6.pin _ (_p _ (_p _ (wC (.head _) ho)));have dd3:s3.heap.DictOf (strKind X.prog X.w) s.heap.objs.size [(k1,u1),(k2,u2)]:=dd.at fun o z=>by
  have z':h'.get? s.heap.objs.size=some o:=z;rw [ho] at z';cases z';exact pin2.1
 refine call_meetsIn _aY dd3.typeIs _bO (PySem.F.args_dict_get_2 _ _) (meets_dict_get (strKind X.prog X.w) s.heap.objs.size (strKind_is _ _ k t) far) ⟨_,dd3.mapOf,_,H3,I6.unpinned.tok _,?_,q3⟩;by_cases c1:k=k1
 ·subst c1;simpa [valueAt] using r1
 ·by_cases c2:k=k2
  ·subst c2;simpa [valueAt,hk,c1] using r2
  ·have e1:¬ k1=k:=fun z=>c1 z.symm;have e2:¬ k2=k:=fun z=>c2 z.symm;simp only [valueAt,List.find?,e1,e2,c1,c2,_cr,_ak,Option.map_none,_c9];rfl
end
open PySem.Builtin.Str
section
variable {X:Cx}{o e:Expr}{to te:TE}{apos cpos pos:Pos}
theorem zcF(ho:PE X o to)(hbase:attributeBase o "upper" X.env (eval o X.env)=eval o X.env:=by rfl)(hline:(apos.endLine==cpos.line)=true:=by rfl): PE X (.Call (.Attribute o "upper" apos) [] [] cpos) (fun O H Q=>to O H fun x H1=>∃ z,x=.str z/\tooLong (Txt.upper z).length=false/\Q (.str (Txt.upper z)) H1):=by
 intro pins s O H Q I h;refine Call_method0 hbase hline (thn (ho pins s O H _ I h) fun v s1 ⟨x,H1,I1,r1,z,ez,hz,q⟩=>?_);subst ez;obtain ⟨t,rfl⟩:=r1;exact SB.upper hz ⟨.str (Txt.upper z),H1,I1.tok _,⟨_,rfl⟩,q⟩
def zlx:V->Option Int->Option Int->Hp->VK->Prop:=fun x lo hi H Q=>∃ z i,x=.str z/\lo=some i/\hi=none/\z.length<=sizeLine/\Q (.str (Txt.slice z (some i) none)) H
theorem zj5:SlR X zlx:=by
 intro pins s O H x v vl vu lo hi sl Q I rx hs pl pu h;obtain ⟨z,i,rfl,rfl,rfl,hz,q⟩:=h;obtain ⟨t,rfl⟩:=rx;obtain ⟨ob,ho,hc,hd⟩:=hs;cases pl with | int i ti=> cases pu with | none=>
   refine ⟨"str",_,PySem.F.slot_str_getitem.lookup,typeIs_str _ _ _,wpAny_getItem_str_slice (l:=some (i,ti)) (u:=none) (st:=none) ⟨ob,ho,hc,hd⟩ rfl (post_val_or_str ⟨_U (Txt.slice_le z _ _) hz,fun t' k=>?_⟩)⟩;exact ⟨.str (Txt.slice z (some i) none),H,I.tok _,⟨_,rfl⟩,q⟩
end
end L2
namespace Dd
open L2 PySem.Builtin.Str
section
variable {X:Cx}{E:XK}{o e v1 v2:Expr}{apos cpos dpos p1 p2 pos:Pos}{k1 k2:Str}{j1 j2:Nat}
theorem z7J{mg:Gm}{H:Hp}{Y:List Addr}{z:Str}:Den mg H Y (.str z) (.str z):=by simp [Den]
def zeo(f:FE):FE:=fun Z s=>(f Z s).bind fun d s1=>match d with
 | .str z=>if tooLong (Txt.upper z).length=false then .ok (.str (Txt.upper z)) s1 else .no | _=>.no
theorem zeX{f:FE}(ho:RE X E o f)(hbase:attributeBase o "upper" X.env (eval o X.env)=eval o X.env:=by rfl)(hline:(apos.endLine==cpos.line)=true:=by rfl): RE X E (.Call (.Attribute o "upper" apos) [] [] cpos) (zeo f):=zE (zcF ho hbase hline) fun O H Q ⟨Y,Z,s,r,en,h⟩=>by
 refine zB (k:=fun Z d s1=>match d with | .str z=>if tooLong (Txt.upper z).length=false then R.ok (D.str (Txt.upper z)) s1 else .no | _=>.no) r en h _ fun v H1 Y1 s1 d r1 en1 dn stp h1=>?_;cases d with
 | str z=>
  cases uG dn;simp only at h1;split at h1
  ·rename_i hz;exact ⟨z,rfl,hz,h1.here r1 z7J⟩
  ·exact h1.elim | _=>exact h1.elim
def zl7(f:FE)(fl:FO):FE:=fun Z s=>(f Z s).bind fun d s1=>(fl Z s1).bind fun lo s2=>match d,lo with
 | .str z,some i=>if z.length<=cap then .ok (.str (Txt.slice z (some i) none)) s2 else .no | _,_=>.no
theorem zcq{lo:Option Expr}{p2:Pos}{fe:FE}{fl:FO}(he:RE X E e fe)(hl:RO X E lo fl):RE X E (.Subscript e (.Slice lo none none p2) pos) (zl7 fe fl):= zE (z8f zj5 he hl zaC) fun O H Q ⟨Y,Z,s,r,en,h⟩=>by
  refine zB (k:=fun Z d s1=>(fl Z s1).bind fun lo s2=>match d,lo with | .str z,some i=>if z.length<=cap then R.ok (D.str (Txt.slice z (some i) none)) s2 else .no | _,_=>.no) r en h _ fun v H1 Y1 s1 d r1 en1 dn stp h1=>?_;refine z7s (k:=fun Z lo s2=>match d,lo with | .str z,some i=>if z.length<=cap then R.ok (D.str (Txt.slice z (some i) none)) s2 else .no | _,_=>.no) r1 en1 h1 _ fun lo H2 Y2 s2 r2 en2 stp2 h2=>?_;cases d with
  | str z=>
   cases uG dn;cases lo with
   | none=>exact h2.elim | some i=>
    simp only at h2;split at h2
    ·rename_i hz;exact ⟨z,i,rfl,rfl,rfl,uj hz,h2.here r2 z7J⟩
    ·exact h2.elim
  | _=>cases lo<;>exact h2.elim
def zdz:D->D->Sto->R D
 | .str a,.str b,s=>if a.length+b.length<=cap then .ok (.str (a++b)) s else .no | _,_,_=>.no
theorem zdQ:∃ r,OpR X (binaryOp .Add) r/\OpF X E r zdz:=by
 refine ⟨_,z8T,?_⟩;intro H Y s d1 d2 v1 v2 Q r h1 h2 h;unfold zdz at h;split at h
 ·rename_i a b;cases uG h1;cases uG h2;split at h
  ·rename_i hl;exact ⟨a,b,rfl,rfl,uj hl,h.here r z7J⟩
  ·exact h.elim
 ·exact h.elim
def z9J(k1 k2:Str)(f1 f2 fe:FE):FE:=fun Z s=>(f1 Z s).bind fun x1 s1=>(f2 Z s1).bind fun x2 s2=>(fe Z s2).bind fun y s3=>match y with
 | .str k=>.ok (if k=k1 then x1 else if k=k2 then x2 else .non) s3 | _=>.no
theorem zii{f1 f2 fe:FE}(hk:k1≠k2)(h1:RE X E v1 f1)(h2:RE X E v2 f2)(he:RE X E e fe) (hbase:attributeBase (.Dict [some (.Constant (.str k1) j1 p1),some (.Constant (.str k2) j2 p2)] [v1,v2] dpos) "get" X.env (eval (.Dict [some (.Constant (.str k1) j1 p1),some (.Constant (.str k2) j2 p2)] [v1,v2] dpos) X.env) = eval (.Dict [some (.Constant (.str k1) j1 p1),some (.Constant (.str k2) j2 p2)] [v1,v2] dpos) X.env:=by rfl) (hfew:((backTo cpos (starEach [e] X.env)).all (fun x=>!x.1)&&(backToKw cpos (keywordEach [] X.env)).all (fun x=>x.1.isSome) && decide ([e].length+([]:List Keyword).length+(if ([]:List Keyword).isEmpty then 0 else 1)<30))=true:=by rfl) (hline:(apos.endLine==cpos.line)=true:=by rfl)(hs:backTo cpos (starEach [e] X.env)=[(false,eval e X.env)]:=by rfl): RE X E (.Call (.Attribute (.Dict [some (.Constant (.str k1) j1 p1),some (.Constant (.str k2) j2 p2)] [v1,v2] dpos) "get" apos) [e] [] cpos) (z9J k1 k2 f1 f2 fe):= zE (zbF hk h1 h2 he hbase hfew hline hs) fun O H Q ⟨Y,Z,s,r,en,h⟩=>by
  refine zB (k:=fun Z x1 s1=>(f2 Z s1).bind fun x2 s2=>(fe Z s2).bind fun y s3=>match y with | .str k=>R.ok (if k=k1 then x1 else if k=k2 then x2 else D.non) s3 | _=>.no) r en h _ fun u1 H1 Y1 s1 x1 r1 en1 d1 st1 h1=>?_;refine zB (k:=fun Z x2 s2=>(fe Z s2).bind fun y s3=>match y with | .str k=>R.ok (if k=k1 then x1 else if k=k2 then x2 else D.non) s3 | _=>.no) r1 en1 h1 _ fun u2 H2 Y2 s2 x2 r2 en2 d2 st2 h2=>?_;refine zB (k:=fun Z y s3=>match y with | .str k=>R.ok (if k=k1 then x1 else if k=k2 then x2 else D.non) s3 | _=>.no) r2 en2 h2 _ fun u3 H3 Y3 s3 y r3 en3 d3 st3 h3=>?_;cases y with
  | str k=>
   cases uG d3;refine ⟨k,rfl,h3.here r3 ?_⟩;split;·exact (d1.mono st2).mono st3
   ·split;·exact d2.mono st3
    ·simp [Den] | _=>exact h3.elim
end
end Dd
namespace Dd
open L2
section
variable {X:Cx}{E:XK}{es:List Expr}{fa:FE}{fr:FA}
theorem aN{x:Str}{p:Pos}(ha:RE X E (.Name x p) fa)(hr:RA X E es fr):RA X E ((.Name x p)::es) (za fa fr):=qG ha hr (zy ..)
theorem aK{c:Const}{j:Nat}{p:Pos}(ha:RE X E (.Constant c j p) fa)(hr:RA X E es fr):RA X E ((.Constant c j p)::es) (za fa fr):=qG ha hr (z3D ..)
theorem aQ{g:Expr}{xs:List Expr}{ks:List Keyword}{p:Pos}(ha:RE X E (.Call g xs ks p) fa)(hr:RA X E es fr):RA X E ((.Call g xs ks p)::es) (za fa fr):=qG ha hr (z1D ..)
theorem aT{xs:List Expr}{k:Nat}{p:Pos}(ha:RE X E (.Tuple xs k p) fa)(hr:RA X E es fr):RA X E ((.Tuple xs k p)::es) (za fa fr):=qG ha hr (z8c ..)
theorem aS{a b:Expr}{p:Pos}(ha:RE X E (.Subscript a b p) fa)(hr:RA X E es fr):RA X E ((.Subscript a b p)::es) (za fa fr):=qG ha hr (z1x ..)
theorem aB{a b:Expr}{o:Operator}{p:Pos}(ha:RE X E (.BinOp a o b p) fa)(hr:RA X E es fr):RA X E ((.BinOp a o b p)::es) (za fa fr):=qG ha hr (zcD ..)
theorem aL{xs:List Expr}{p:Pos}(ha:RE X E (.List xs p) fa)(hr:RA X E es fr):RA X E ((.List xs p)::es) (za fa fr):=qG ha hr (zdc ..)
theorem aO{a:Expr}{g:List Comprehension}{sc:Scope}{p:Pos}(ha:RE X E (.ListComp a g sc p) fa)(hr:RA X E es fr):RA X E ((.ListComp a g sc p)::es) (za fa fr):=qG ha hr (xf ..)
theorem aM{a:Expr}{o:List CmpOp}{b:List Expr}{p:Pos}(ha:RE X E (.Compare a o b p) fa)(hr:RA X E es fr):RA X E ((.Compare a o b p)::es) (za fa fr):=qG ha hr (z7T ..)
theorem aU{o:UnaryOp}{a:Expr}{p:Pos}(ha:RE X E (.UnaryOp o a p) fa)(hr:RA X E es fr):RA X E ((.UnaryOp o a p)::es) (za fa fr):=qG ha hr (zg3 ..)
theorem vj {e:Expr} {pos:Pos} {CX:CXT} {x:Str} {p:Pos} {n k:Nat} {M:Mir} {f:FA} (F:Has X.prog X.w X.K X.mg X.base CX x n M) (hr:z09 k X.A) (hx:Passes CX X E) (ha:RA X E (e::es) f) (hk:n<=k:=by decide) (hg:Gl X x:=by rfl) (hdb:(x==("__debug__":Str))=false:=by decide) (he:starEach (e::es) X.env=(false,eval e X.env)::starEach es X.env:=by rfl) (hpl:(backTo pos (starEach es X.env)).any (·.1)=false:=by rfl):RE X E (.Call (.Name x p) (e::es) [] pos) (zg M f):=zbQ F (hr.mono hk) hx hg ha hdb he hpl
end
section
variable {q:Ask}{w:World}{K:W.Frag}{h:Heap}{mg:Str->Option Value}
theorem zN(X:K.In h)(G:h.Ns mainGlobals mg)(e:z9x q K=valS q w)(i:Nat){x:Str}{st:Stmt}(hx:q.fs[i]? = some (x,st)):∃ f fd,mg x=some (.ref f)/\Fun K x x st f fd:=let ⟨f,fd,a,F⟩:=zky e x st (_A hx);⟨f,fd,W.mg_of X G a,F⟩
theorem vy(X:K.In h)(G:h.Ns mainGlobals mg)(e:z9x q K=valS q w)(i:Nat){x:Str}(hx:q.bs[i]? = some x):mg x=none:=W.mg_none_of X G (zjR e x (_A hx))
theorem zaj(X:K.In h)(G:h.Ns mainGlobals mg)(e:z9x q K=valS q w)(i:Nat){x:Str}{c:Int}(hx:q.cs[i]? = some (x,c)):∃ t,mg x=some (.int c t):=let ⟨t,z⟩:=zkE e x c (_A hx);⟨t,W.mg_of X G z⟩
end
open PySem.W
end Dd
namespace Dd
open L2
section
variable {X:Cx}{E:XK}{e:Expr}{pos pos':Pos}
def zgU(i:Nat)(f:FE):FS:=fun Z s=>match Z[i]? with
 | some (some (.int a))=>(f Z s).bind fun d s1=>match d with | .int b=>.ok (.nx (Z.set i (some (.int (a+b))))) s1 | _=>.no
 | _=>.no
theorem zkp(i:Nat){x:Str}{f:FE}(hN:X.N.Nodup)(he:RE X E e f)(hi:X.N[i]? = some x:=by rfl)(hx:Loc X.env.scope x:=by first | exact Or.inl rfl | exact Or.inr rfl)(hf:X.fn x=true\/X.env.scope.names.lookup x=some .local:=by first | exact .inl rfl | exact .inr rfl | assumption): RS X E (.AugAssign (.Name x pos') .Add e pos) (zgU i f):= vK (zj9 hN hi hx he ziM hf) fun D O H ⟨Y,Z,s,r,en,h⟩=>by
  unfold zgU at h;split at h
  ·rename_i a ea;obtain ⟨v,h1,h2⟩:=en.at_ i _ ea;cases zQ h2;refine ⟨_,h1,?_⟩;refine zB (k:=fun Z d s1=>match d with | .int b=>R.ok (Fl.nx (Z.set i (some (.int (a+b))))) s1 | _=>.no) r en h _ fun v H1 Y1 s1 d r1 en1 dn stp h3=>?_;cases d with
   | int b=>
    cases zQ dn;refine ⟨_,_,rfl,rfl,?_⟩;exact okR.here (b:=FlV.nx (O.set i (some (.int (a+b))))) h3 r1 (en1.set (by simp [Den]) i) | _=>exact h3.elim
  ·exact h.elim
@[simp] theorem zkX {i:Nat}{f:FE}{Z:Ev}{s:Sto}{a b:Int}{s1:Sto}(h:Z[i]? = some (some (.int a)))(hf:f Z s=.ok (.int b) s1):zgU i f Z s=.ok (.nx (Z.set i (some (.int (a+b))))) s1:=by simp only [zgU,h,hf,Rb]
end
open PySem.W
end Dd
namespace Dd
open L2
end Dd
namespace L2
theorem z4C(its:List Value):slicePick its.toArray none none (some (-1))=its.reverse.toArray:=by
 unfold slicePick;have e:sliceRange (sliceBounds none none (some (-1)) its.toArray.size).1 (sliceBounds none none (some (-1)) its.toArray.size).2.1 (sliceBounds none none (some (-1)) its.toArray.size).2.2=(List.range its.length).map fun k=>its.length-1-k:=by
  simp only [sliceBounds,_aH,_j];unfold sliceRange;have c:(if (-1:Int) > 0 then (if ((its.length:Int)-1) < -1 then (-1-((its.length:Int)-1)+-1-1) / -1 else 0) else if ((its.length:Int)-1) > -1 then (((its.length:Int)-1) - -1 - -1-1) / - -1 else 0).toNat=its.length:=by
   rw [_q (by decide)];by_cases h:its.length=0;·rw [h];rfl
   ·rw [_f (by omega)];have:(((its.length:Int)-1) - -1 - -1-1) / - -1=its.length:=by simp
    rw [this];simp
  simp only [show ¬ ((-1:Int) > 0) by decide,_ak] at c ⊢;rw [c];refine _bc fun k hk=>?_;have:=_aB.mp hk;omega
 rw [e];congr 1;have key:∀ k,k<=its.length->((List.range k).map fun k=>its.length-1-k).filterMap (fun x=>its.toArray[x]?)=its.reverse.take k:=by
  intro k;induction k with
  | zero=>simp | succ k ih=>
   intro hk;rw [List.range_succ,_ci,List.filterMap_append,ih (by omega)];have hl:k<its.reverse.length:=by simp;omega
   rw [List.take_succ,_e hl];have h2:its.length-1-k<its.length:=by omega
   simp [h2]
 rw [key _ (_g _),List.take_of_length_le (by simp)]
section
variable {X:Cx}{e m:Expr}{te:TE}{pos p2:Pos}
def zkq(K:W.Frag)(te:TE):TE:=fun O H Q=>te O H fun x H1=>∃ a xs,x=.ref a/\SqL K H1 a xs/\∀ p,H1 p=none->Q (.ref p) (upd H1 p (.lst xs.reverse))
theorem zgz (he:PE X e te) (hm:∀ (pins:List (Addr×Obj)) (s:Shared) (O:St) (H:Hp),Inv X pins O H s->wpAny (model X.prog X.w) X.A (evalPart (some m) X.env) (fun u s'=>∃ t,u=.int (-1) t/\Inv X pins O H s') X.xe s): PE X (.Subscript e (.Slice none none (some m) p2) pos) (zkq X.K te):=by
 intro pins s O H Q I h;refine Subscript_ (thn (he pins s O H _ I h) fun v s1 ⟨x,H1,I1,r1,q1⟩=>?_);refine wpAny_Slice ?_;rw [evalPart_none];refine _c (_c ?_);refine thn (hm pins s1 O H1 I1) fun u s3 ⟨t,eu,I3⟩=>?_;subst eu;have I4:Inv X pins O H1 {s3 with heap:=s3.heap.push {cls:=.type "slice",data:=.fields #[.none,.none,.int (-1) t]}}:=I3.kept (t':=s3.toks) fun b ob q=>_d _ q;obtain ⟨a,xs,rfl,hx,q⟩:=q1;cases r1;obtain ⟨its,r,ht,hz⟩:=I4.list hx;show wpAny (model X.prog X.w) X.A (subscriptTail e (.Slice none none (some m) p2) (.ref a) (.ref s3.heap.objs.size)) (EP X pins O Q) X.xe {s3 with heap:=s3.heap.push {cls:=.type "slice",data:=.fields #[.none,.none,.int (-1) t]}};refine tail_any (ops:=[.ref a,.ref s3.heap.objs.size]) ht.isList.typeIs _cL.lookup ?_ (by with_unfolding_all rfl);have hlen:=r.length;refine wpAny_getItem_list_slice ht.isList (Heap.IsSliceOf.new ..) .none .none (.int _ _) (by simp) ?_ (by rw [_j]<;>omega);rw [z4C];refine ⟨.ref _,_,I4.laid (t':=s3.toks) (o:=.lst xs.reverse) (fun b ob q=>_d _ q) (_g _) ?_,rfl,q _ (I4.hok.fresh (_g _))⟩;have hr:ym xs.reverse its.reverse:=by
  clear hx hz ht q I4 hlen;induction r with
  | nil=>exact .nil | cons p _ ih=>rw [_ar,_ar];exact ih.append (.cons p .nil)
 exact ⟨by simpa using hz,_,0,hr,_h _ rfl⟩
end
end L2
namespace Dd
open L2
section
variable {X:Cx}{E:XK}{e:Expr}{pos p2 p3 p4:Pos}
def zbj(f:FE):FE:=fun Z s=>(f Z s).bind fun d s1=>match listOf s1 d with
 | some xs=>.ok (.lst xs.reverse) s1 | none=>.no
theorem zhY {j:Nat} {f:FE} (he:RE X E e f):RE X E (.Subscript e (.Slice none none (some (.UnaryOp .USub (.Constant (.int 1) j p3) p4)) p2) pos) (zbj f):= zE (zgz he fun pins s O H I=>by
  rw [evalPart_some];refine thn ((ziy (pos:=p4) ze4 (zeA (i:=1) (j:=j) (pos:=p3))) pins s O H (fun v H1=>v=.int (-1)/\H1=H) I ?_) fun u s1 ⟨x,H1,I1,r1,e1,e2⟩=>?_;·exact ⟨1,rfl,rfl,rfl⟩
  ·subst e1 e2;obtain ⟨t,rfl⟩:=r1;exact ⟨t,rfl,I1⟩).freeze fun O H Q ⟨Y,Z,s,r,en,h⟩=>by
  unfold zbj at h;refine ⟨Y,Z,s,r,en,(okR.bind (Dn:=Den (gm X)) h).imp fun v H1 ⟨Y1,s1,d,stp,dn,h1⟩=>?_⟩;split at h1
  ·rename_i xs ex;obtain ⟨a,ws,rfl,q1,q2⟩:=zJ stp.rep ex dn;exact ⟨a,ws,rfl,.inl q1,kb stp.rep h1 q2.rev⟩
  ·exact h1.elim
@[simp] theorem zeU (f:FE)(Z:Ev)(s:Sto):zbj f Z s=(f Z s).bind fun d s1=>match listOf s1 d with
 | some xs=>.ok (.lst xs.reverse) s1 | none=>.no:=id rfl
end
def kT:List D->Option (List Key)
 | []=>some [] | .int i::r=>(kT r).map (Sum.inl i::·) | .str x::r=>(kT r).map (Sum.inr x::·) | _=>none
def vV:D->Option V
 | .int i=>some (.int i) | .bl b=>some (.bl b) | _=>none
def vD:V->D
 | .int i=>.int i | .bl b=>.bl b | _=>.non
def encD(kvs:List (List Key×V)):List D:=kvs.map fun p=>.tup [.tup (p.1.map z6n),vD p.2]
def z7z:List D->Option (List (List Key×V))
 | []=>some [] | .tup [.tup ks,.int i]::r=>(kT ks).bind fun k=>(z7z r).map ((k,V.int i)::·) | .tup [.tup ks,.bl b]::r=>(kT ks).bind fun k=>(z7z r).map ((k,V.bl b)::·) | _=>none
theorem z1B:∀ k:List Key,kT (k.map z6n)=some k
 | []=>rfl | .inl i::k=>by simp [z6n,kT,z1B k] | .inr x::k=>by simp [z6n,kT,z1B k]
theorem z4a:∀ {ds:List D}{k:List Key},kT ds=some k->ds=k.map z6n
 | [],k,e=>by simp [kT] at e;subst e;rfl | .int i::r,k,e=>by
  simp only [kT,_v] at e;obtain ⟨a,h1,rfl⟩:=e;rw [z4a h1];rfl | .str i::r,k,e=>by
  simp only [kT,_v] at e;obtain ⟨a,h1,rfl⟩:=e;rw [z4a h1];rfl | .non::_,_,e=>by simp [kT] at e | .bl _::_,_,e=>by simp [kT] at e | .tup _::_,_,e=>by simp [kT] at e | .lst _::_,_,e=>by simp [kT] at e | .dct::_,_,e=>by simp [kT] at e | .loc _::_,_,e=>by simp [kT] at e | .dlo _::_,_,e=>by simp [kT] at e | .fn _::_,_,e=>by simp [kT] at e | .exc _::_,_,e=>by simp [kT] at e | .scr _::_,_,e=>by simp [kT] at e
theorem z1v{mg:Gm}{H:Hp}{Y:List Addr}:∀ {k:List Key}{vs:List V},zq mg H Y (k.map z6n) vs->vs=k.map kV
 | [],_,h=>by simpa [zq] using h | .inl i::k,vs,h=>by
  simp only [_s,zq] at h;obtain ⟨v,r,rfl,h1,h2⟩:=h;rw [zQ h1,z1v h2];rfl | .inr i::k,vs,h=>by
  simp only [_s,zq] at h;obtain ⟨v,r,rfl,h1,h2⟩:=h;rw [uG h1,z1v h2];rfl
theorem z4K{mg:Gm}{H:Hp}{Y:List Addr}:∀ (k:List Key),zq mg H Y (k.map z6n) (k.map kV)
 | []=>by simp [zq] | .inl i::k=>by simp only [_s];exact zq.cons (by simp [z6n,kV,Den]) (z4K k) | .inr i::k=>by simp only [_s];exact zq.cons (by simp [z6n,kV,Den]) (z4K k)
theorem zaF{v:V}{x:D}(h:z9l v=some x):x=vD v:=by cases v<;>simp [z9l] at h<;>simp [vD,h]
theorem zhZ{d:D}{u:V}(h:vV d=some u):z9l u=some d/\vD u=d:=by cases d<;>simp [vV] at h<;>subst h<;>exact ⟨rfl,rfl⟩
theorem zit{mg:Gm}{H:Hp}{Y:List Addr}{d:D}{u v:V}(h:vV d=some u)(dn:Den mg H Y d v):v=u:=by cases d with
 | int i=>simp [vV] at h;subst h;exact zQ dn | bl b=>simp [vV] at h;subst h;exact uw dn | _=>simp [vV] at h
def zbJ(kvs:List (List Key×V)):Prop:=∀ p∈kvs,(z9l p.2).isSome=true
theorem z2l:∀ {xs:List D}{kvs:List (List Key×V)},zdE xs kvs->xs=encD kvs/\zbJ kvs/\z7z xs=some kvs
 | [],kvs,h=>by simp only [zdE] at h;subst h;exact ⟨rfl,(fun p hp=>by simp at hp),rfl⟩ | d::ds,kvs,h=>by
  simp only [zdE] at h;obtain ⟨k,v,x,r,rfl,h1,rfl,h2⟩:=h;obtain ⟨i1,i2,i3⟩:=z2l h2;refine ⟨?_,fun p hp=>?_,?_⟩
  ·rw [zaF h1];show _::ds=encD ((k,v)::r);rw [encD,_s];congr 1
  ·rcases _z.mp hp with rfl | hp;·rw [h1];rfl
   ·exact i2 p hp
  ·cases v with
   | int i=>simp only [z9l,_w] at h1;subst h1;simp [z7z,z1B,i3] | bl b=>simp only [z9l,_w] at h1;subst h1;simp [z7z,z1B,i3] | _=>simp [z9l] at h1
theorem z43:∀ {kvs:List (List Key×V)},zbJ kvs->zdE (encD kvs) kvs
 | [],_=>rfl | (k,v)::r,h=>by
  obtain ⟨x,hx⟩:=_ai.mp (h (k,v) (by simp));refine ⟨k,v,x,r,rfl,hx,?_,z43 fun p hp=>h p (by simp [hp])⟩;rw [zaF hx]
theorem dec_enc{kvs:List (List Key×V)}(h:zbJ kvs):z7z (encD kvs)=some kvs:=(z2l (z43 h)).2.2
theorem Rep.dicU{mg:Gm}{H:Hp}{Y:List Addr}{s:Sto}(r:Rep mg H Y s){l:Nat}{xs:List D}{a:Addr}{kvs:List (List Key×V)}(h:s[l]? = some xs)(ha:Y[l]? = some a)(k:IsC H a)(hd:z7z xs=some kvs):H a=some (.dT kvs)/\zbJ kvs/\xs=encD kvs:=by
 rcases r.dic h ha k with ⟨kvs',q1,q2⟩ | ⟨o,kvs',ys,q1,rfl,q2⟩
 ·obtain ⟨z1,z2,z3⟩:=z2l q2;rw [z3] at hd;cases hd;exact ⟨q1,z2,z1⟩
 ·simp [z7z] at hd
theorem z4F:∀ k:List Key,D.flat.flats (k.map z6n)=true
 | []=>rfl | .inl i::k=>by simp [z6n,D.flat.flats,D.flat,z4F k] | .inr i::k=>by simp [z6n,D.flat.flats,D.flat,z4F k]
theorem z3U:∀ kvs:List (List Key×V),D.flat.flats (encD kvs)=true
 | []=>rfl | (k,v)::r=>by
  have:(vD v).flat=true:=by cases v<;>rfl
  simp only [encD,_s,D.flat.flats,D.flat,z4F,this,Bool.and_true,Bool.true_and];exact z3U r
theorem zbJ.put{kvs:List (List Key×V)}{k:List Key}{u:V}(h:zbJ kvs)(hu:(z9l u).isSome=true):zbJ (jq kvs k u):=by
 unfold jq;split
 ·intro p hp;obtain ⟨q,hq,rfl⟩:=_F.mp hp;split;·exact hu
  ·exact h q hq
 ·intro p hp;rcases _V.mp hp with hp | hp;·exact h p hp
  ·simp only [_z,_bt,or_false] at hp;subst hp;exact hu
section
variable {X:Cx}{E:XK}{o i e value:Expr}{pos pos':Pos}
def zhE:FE:=fun _ s=>.ok (.dlo s.length) (s++[[]])
theorem zic:RE X E (.Dict [] [] pos) zhE:=zE zdy fun O H Q ⟨Y,Z,s,r,en,h⟩ p hp=>by
 refine h _ _ _ (xr.layC r hp (o:=.dT []) (.inr (.inl ⟨[],zC,rfl⟩)) rfl) ?_;simp only [Den];exact ⟨p,rfl,by rw [<- r.len];simp,.inl ⟨[],zC⟩⟩
def zbA(fo fk fv:FE):FS:=fun Z s=>(fv Z s).bind fun v s1=>(fo Z s1).bind fun o s2=>(fk Z s2).bind fun k s3=>match o,k,vV v with
 | .dlo l,.tup ks,some u=>match (s3[l]?).bind z7z,kT ks with
  | some kvs,some key=>if kvs.length<cap then .ok (.nx Z) (s3.set l (encD (jq kvs key u))) else .no | _,_=>.no
 | _,_,_=>.no
theorem zhf {fo fk fv:FE} (hu:X.A.units+64<cLine) (hv:RE X E value fv) (ho:RE X E o fo) (hi:RE X E i fk) (hs:swapsWith value (some (.Subscript o i pos')) pos.line X.env=pure false:=by rfl): RS X E (.Assign [.Subscript o i pos'] value pos) (zbA fo fk fv):= vK (zf1 (by omega) ho hi hv hs) fun D O H ⟨Y,Z,s,r,en,h⟩=>by
  unfold zbA at h;refine zB (k:=fun Z v s1=>(fo Z s1).bind fun o s2=>(fk Z s2).bind fun k s3=>match o,k,vV v with
   | .dlo l,.tup ks,some u=>match (s3[l]?).bind z7z,kT ks with
    | some kvs,some key=>if kvs.length<cap then R.ok (Fl.nx Z) (s3.set l (encD (jq kvs key u))) else .no | _,_=>.no
   | _,_,_=>.no) r en h _ fun v H1 Y1 s1 d r1 en1 dn stp h1=>?_;refine zB (k:=fun Z o s2=>(fk Z s2).bind fun k s3=>match o,k,vV d with
   | .dlo l,.tup ks,some u=>match (s3[l]?).bind z7z,kT ks with
    | some kvs,some key=>if kvs.length<cap then R.ok (Fl.nx Z) (s3.set l (encD (jq kvs key u))) else .no | _,_=>.no
   | _,_,_=>.no) r1 en1 h1 _ fun v2 H2 Y2 s2 od r2 en2 dn2 stp2 h2=>?_;refine zB (k:=fun Z k s3=>match od,k,vV d with
   | .dlo l,.tup ks,some u=>match (s3[l]?).bind z7z,kT ks with
    | some kvs,some key=>if kvs.length<cap then R.ok (Fl.nx Z) (s3.set l (encD (jq kvs key u))) else .no | _,_=>.no
   | _,_,_=>.no) r2 en2 h2 _ fun v3 H3 Y3 s3 kd r3 en3 dn3 stp3 h3=>?_;split at h3
  ·rename_i l ks u eu;split at h3
   ·rename_i kvs key ek edk;split at h3
    ·rename_i hl;have dv:=(dn.mono stp2).mono stp3;obtain rfl:u=v:=(zit eu dv).symm;have dov:=dn2.mono stp3;simp only [Den] at dov;obtain ⟨a,rfl,e1,ka⟩:=dov;obtain ⟨xs,ex,edc⟩:=_ac.mp ek;obtain ⟨q1,z2,z1⟩:=r3.dicU ex e1 ka edc;rw [z4a edk] at dn3;simp only [Den] at dn3;obtain ⟨b,vs,rfl,hb,hd⟩:=dn3;rw [z1v hd] at hb;have ap:=z2.put (k:=key) (u:=u) (by rw [(zhZ eu).1];rfl);have stp4:=xr.putC (l:=l) (o:=.dT (jq kvs key u)) r3 e1 (.putC ⟨_,q1⟩ (.inl ⟨_,rfl⟩)) (.inr (.inl ⟨_,zC,z43 ap⟩)) (z3U _);exact ⟨a,_,rfl,zj8.t q1 hb (_r hl (by decide)),h3 (.nx O) _ _ stp4 (en3.mono stp4)⟩
    ·exact h3.elim
   ·exact h3.elim
  ·exact h3.elim
end
theorem zcc {prog:Program} {w:World} {A:Around} {E:Value->Shared->Prop} {s:Shared} {it d:Addr} {i ep:Nat} {o:Obj} {es:Array DictEntry} {e:DictEntry} {Q:Option Value->Shared->Prop} (hit:s.heap.IsKeyIter it d i es.size ep) (hod:s.heap.get? d=some o) (hdd:o.data=.dict es ep) (he:es[i]? = some e) (hQ:∀ h':Heap,h'.IsKeyIter it d (i+1) es.size ep->Heap.SameBut it s.heap h'->Q (some e.key) {s with heap:=h'}):wpAny (model prog w) A (pyNext (.ref it)) Q E s:=by
 obtain ⟨oi,ho,hc,hd⟩:=id hit;refine _a (_bb (_G hit.typeIs _aw (_I _aw hit.typeIs _ca ?_ (_b4 _))));refine _a (_c (_a (_a (_a (_aL hit.typeIs (_c (_a (_cz ho hd ?_))))))));have hown:Builtin.Dict_items.ownsTuple "dict_keyiterator"=false:=by decide +kernel
 rw [hown];simp only [_az,_ak,_cA];show wpAny _ _ (if (Value.ref d==Value.none)=true then _ else _) _ _ _;rw [_q (by simp)];refine _a (_c (_a (_a9 hod hdd ?_)));rw [_q (by simp)];refine _a (_c (_a (_bk hod hdd ?_)));rw [_q (by simp)];refine _c ?_;have hi:(if (i:Int)<0 then none else es[(i:Int).toNat]?)=some e:=by rw [_q (by omega)];simpa using he
 show wpAny _ _ (match (if (i:Int)<0 then none else es[(i:Int).toNat]?) with | some e=>_ | none=>_) _ _ _;rw [hi];refine _a (_a (_aL hit.typeIs (_c ?_)));rw [hown];refine _a (wpAny_isOneOf_keyiter hit.typeIs ?_);refine _a (_bp ho hd (show 1<4 by decide) ?_);have st':∀ g:Array Value->Array Value,g #[Value.ref d,Value.int (i:Int) 0,Value.int (es.size:Int) 0,Value.int (ep:Int) 0]=#[Value.ref d,Value.int ((i+1:Nat):Int) 0,Value.int (es.size:Int) 0,Value.int (ep:Int) 0]->(s.heap.update it (Obj.mapFields g)).IsKeyIter it d (i+1) es.size ep:=fun g hg=>by
  obtain ⟨c0,d0,da,sl⟩:=oi;simp only at hc hd;subst hc hd;refine ⟨_,_bm _ ho rfl,rfl,?_⟩;show Data.fields (g _)=_;rw [hg]
 have st2:=st' (fun x=>x.setIfInBounds 1 (rawInt ((i:Int)+1))) (by simp [rawInt]);refine _a (_au ?_);refine _a (wpAny_isOneOf_keyiter st2.typeIs ?_);rw [_f (by decide +kernel)];refine _c (_c ⟨_,rfl,_c ?_⟩);exact hQ _ st2 (_ap ..)
theorem zeR {prog:Program} {w:World} {A:Around} {E:Value->Shared->Prop} {s:Shared} {it d:Addr} {i ep:Nat} {o:Obj} {es:Array DictEntry} {Q:Option Value->Shared->Prop} (hh:A.handled=none) (hit:s.heap.IsKeyIter it d i es.size ep) (hod:s.heap.get? d=some o) (hdd:o.data=.dict es ep) (he:es[i]? = none) (hQ:∀ h':Heap,Heap.ExtBut it s.heap h'->Q none {s with heap:=h'}):wpAny (model prog w) A (pyNext (.ref it)) Q E s:=by
 obtain ⟨oi,ho,hc,hd⟩:=id hit;refine _a (_bb (_G hit.typeIs _aw (_I _aw hit.typeIs _ca ?_ (_b4 _))));refine _a (_c (_a (_a (_a (_aL hit.typeIs (_c (_a (_cz ho hd ?_))))))));have hown:Builtin.Dict_items.ownsTuple "dict_keyiterator"=false:=by decide +kernel
 rw [hown];simp only [_az,_ak,_cA];show wpAny _ _ (if (Value.ref d==Value.none)=true then _ else _) _ _ _;rw [_q (by simp)];refine _a (_c (_a (_a9 hod hdd ?_)));rw [_q (by simp)];refine _a (_c (_a (_bk hod hdd ?_)));rw [_q (by simp)];refine _c ?_;have hi:(if (i:Int)<0 then none else es[(i:Int).toNat]?)=none:=by rw [_q (by omega)];simpa using he
 show wpAny _ _ (match (if (i:Int)<0 then none else es[(i:Int).toNat]?) with | some e=>_ | none=>_) _ _ _;rw [hi];refine _a (_a (_aL hit.typeIs (_c ?_)));rw [hown];refine _a (_bp ho hd (show 0<4 by decide) ?_);show wpAny _ _ (newExc (.type "StopIteration") [] >>= _) _ _ _;refine _a ?_;simp only [newExc,newTuple];refine _a (_L ?_ (by size_fits));refine _a (m:=firstArgMember _ _) (wpAny_of_eq (a:=Value.none) (by first | rfl | (simp only [firstArgMember];rfl)) ?_);refine _L ?_ (by size_fits);simp only [raiseNew];refine _a (wpAny_handled ?_);first | rw [show A.in1.handled=none from hh] | rw [hh]
 refine _a (_c (wpAny_throw ?_));refine _a (_b2 (T:="StopIteration") (b:=true) ⟨_,_h _ rfl,rfl⟩ _cx ?_);exact _c (hQ _ (((_ap ..).extBut.push _).push _))
section
variable {prog:Program}{w:World}{A:Around}{E:Value->Shared->Prop}{s:Shared}{d:Addr}{es:Array DictEntry}{ep:Nat}
def zc7(h:Heap)(d:Addr)(es:Array DictEntry)(ep:Nat):Prop:=∃ o,h.get? d=some o/\o.ExactDict/\o.data=.dict es ep
theorem zc7.typeIs(h:zc7 s.heap d es ep):s.TypeIs (.ref d) "dict":=let ⟨o,ho,hc,_⟩:=h;⟨o,ho,hc.1⟩
theorem zc7.at{h h':Heap}(x:zc7 h d es ep)(e:∀ o,h.get? d=some o->h'.get? d=some o):zc7 h' d es ep:=let ⟨o,ho,r⟩:=x;⟨o,e o ho,r⟩
theorem zdl {Q:Value->Shared->Prop} (hd:(d==sysModules)=false) (hm:zc7 s.heap d es ep) (hQ:Q (.ref s.heap.objs.size) {s with heap:=s.heap.push {cls:=.type "dict_keyiterator",data:=.fields #[.ref d,.int 0 0,.int es.size 0,.int ep 0]}}): wpAny (model prog w) A (pyIter (.ref d)) Q E s:=by
 obtain ⟨o,ho,hc,hdat⟩:=id hm;have hT:=hm.typeIs;refine wpAny_pyIter_slot hT F.slot_dict_iter (_I F.slot_dict_iter hT F.entry_dict_iter ?_ (F.args_dict_iter_1 _));unfold Builtin.«dict.__iter__»;refine _a ?_;unfold Builtin.Dict.dictSlotNone;refine _a (wpAny_notOrdered_dict hT ?_);show wpAny _ _ (pure (Value.ref d)) _ _ s;refine _c ?_;show wpAny _ _ (Builtin.Dict.showsAll d >>= _) _ _ s;unfold Builtin.Dict.showsAll;rw [_q (by rw [hd];exact _N)];refine _a (_c (_a (_a9 ho hdat (_a (_bk ho hdat ?_)))));refine _a (_L (_c ⟨_,rfl,"dict_keyiterator",_,⟨_,_h _ rfl,rfl⟩,_aw.lookup,?_⟩));simpa [rawInt] using hQ
end
def z3L(kvs:List (List Key×V)):List D:=kvs.map fun p=>.tup (p.1.map z6n)
variable {X:Cx}{E:XK}
def zeD:List D->Option (List Int)
 | []=>some [] | .int i::r=>(zeD r).map (i::·) | _=>none
def zgK:D->Option (List Int)
 | .tup ds=>zeD ds | _=>none
def z55:List D->Option (List (List Int))
 | []=>some [] | d::ds=>match zgK d,z55 ds with | some n,some ns=>some (n::ns) | _,_=>none
theorem z8a:∀ ns:List Int,zeD (ns.map D.int)=some ns
 | []=>rfl | i::r=>by simp [zeD,z8a r]
theorem zbq:∀ {ds:List D}{ns:List Int},zeD ds=some ns->ds=ns.map D.int
 | [],_,e=>by simp [zeD] at e;subst e;rfl | d::r,ns,e=>by cases d with
  | int i=>
   simp only [zeD,_v] at e;obtain ⟨a,h1,rfl⟩:=e;rw [zbq h1];rfl | _=>simp [zeD] at e
theorem zc9(ns:List Int):zgK (.tup (ns.map D.int))=some ns:=z8a ns
theorem zgk{d:D}{ns:List Int}(e:zgK d=some ns):d=.tup (ns.map D.int):=by cases d with
 | tup ds=>simp only [zgK] at e;rw [zbq e] | _=>simp [zgK] at e
theorem z6q:∀ L:List (List Int),z55 (L.map fun ns=>.tup (ns.map D.int))=some L
 | []=>rfl | n::L=>by simp only [_s,z55,zc9,z6q L]
def AtN(H:Hp)(v:V)(ns:List Int):Prop:=∃ b,v=.ref b/\H b=some (.tup (ns.map V.int))
theorem zdv{mg:Gm}{H:Hp}{Y:List Addr}{d:D}{v:V}{ns:List Int}(h:zgK d=some ns)(dn:Den mg H Y d v):AtN H v ns:=by
 rw [zgk h] at dn;simp only [Den] at dn;obtain ⟨a,vs,rfl,e,dd⟩:=dn;have:∀ {ns:List Int}{vs:List V},zq mg H Y (ns.map D.int) vs->vs=ns.map V.int:=by
  intro ns;induction ns with
  | nil=>intro vs h;simpa [zq] using h | cons i r ih=>
   intro vs h;simp only [_s,zq] at h;obtain ⟨v,r',rfl,h1,h2⟩:=h;rw [zQ h1,ih h2];rfl
 rw [this dd] at e;exact ⟨a,rfl,e⟩
theorem z6B{mg:Gm}{H:Hp}{Y:List Addr}:∀ {ds:List D}{vs:List V}{L:List (List Int)},z55 ds=some L->zq mg H Y ds vs->Paired (fun v ns=>AtN H v ns) vs L
 | [],_,_,h,dn=>by simp only [z55,_w] at h;simp only [zq] at dn;subst dn;subst h;exact .nil | d::ds,_,_,h,dn=>by
  simp only [zq] at dn;obtain ⟨v,vs,rfl,h1,h2⟩:=dn;simp only [z55] at h;split at h
  ·rename_i n ns e1 e2;cases h;exact .cons (zdv e1 h1) (z6B e2 h2)
  ·cases h
end Dd
namespace L2
open PySem.Builtin.Str
variable {X:Cx}
end L2
namespace Dd
open L2 PySem.Builtin.Str
end Dd
namespace Zz
abbrev T1(b1:Bool)(h:Heap)(l1:Addr):Heap:=h.push (itO b1 l1)
abbrev T2(b1 b2:Bool)(h:Heap)(l1 l2:Addr):Heap:=(T1 b1 h l1).push (itO b2 l2)
end Zz
namespace L2
open Zz
end L2
namespace Dd
open L2
def lexN:List Int->List Int->Bool
 | [],[]=>false | [],_::_=>true | _::_,[]=>false | x::a,y::b=>if x=y then lexN a b else decide (x<y)
inductive ug:List Value->List Int->Prop | nil:ug [] [] | cons {i t vs ns}:ug vs ns->ug (.int i t::vs) (i::ns)
theorem ug.of_vals:∀ {ns:List Int}{us:List Value},ym (ns.map V.int) us->ug us ns
 | [],_,.nil=>.nil | _::_,_,.cons ⟨_,rfl⟩ r=>.cons (ug.of_vals r)
theorem ug.length:∀ {us ns},ug us ns->us.length=ns.length
 | _,_,.nil=>rfl | _,_,.cons r=>by simp [r.length]
end Dd
namespace L2
end L2
namespace Dd
open L2
section
variable {X:Cx}{E:XK}
theorem z0d{α β:Type}{R:α->β->Prop}:∀ {xs:List α}{ys:List β},Paired R xs ys->∀ (i:Nat)(x:α),xs[i]? = some x->∃ y,ys[i]? = some y/\R x y
 | _,_,.nil,i,x,e=>by simp at e | _,_,.cons h r,0,x,e=>by simp at e;subst e;exact ⟨_,rfl,h⟩ | _,_,.cons h r,i+1,x,e=>by simpa using z0d r i x (by simpa using e)
theorem z3n{α β:Type}{R:α->β->Prop}:∀ {xs:List α}{ys:List β},Paired R xs ys->xs.length=ys.length
 | _,_,.nil=>rfl | _,_,.cons h r=>by simp [z3n r]
theorem AtN.tuple{pins:List (Addr×Obj)}{O:L2.St}{H:Hp}{s:Shared}(I:Inv X pins O H s){v:V}{u:Value}{ns:List Int}(a:AtN H v ns)(r:yu v u):∃ b its,v=.ref b/\u=.ref b/\s.heap.IsTuple b its/\ug its.toList ns:=by
 obtain ⟨b,rfl,e⟩:=a;cases (show u=Value.ref b from r);obtain ⟨its,r,pl,hz⟩:=I.tuple (.inl (.inl e));exact ⟨b,its.toArray,rfl,rfl,pl,ug.of_vals (by simpa using r)⟩
end
end Dd
namespace L2
section
variable {prog:Program}{w:World}{A:Around}{R:Result->Shared->Prop}{s:Shared}{elt t1 i1 t2 i2:Expr}{scope:Scope}{pos:Pos}{it acc:Value}{env:Env}
theorem z9Y:compTurn (.ListComp elt [⟨t1,i1,[],0⟩,⟨t2,i2,[],0⟩] scope pos) 0 it acc env=(standAt i1.pos >>= fun _=>pyNext it >>= fun r=>match r with
  | none=>pure (.done .next) | some v=>letOwnedTupleGo t1 it v >>= fun _=>assign t1 env v >>= fun _=>eval i2 env >>= fun x=>standAt i2.pos >>= fun _=>foldedSetIterable i2 env x >>= fun x=>holding [x] (pyIter x) >>= fun jt=> runOwn (.compStart (.ListComp elt [⟨t1,i1,[],0⟩,⟨t2,i2,[],0⟩] scope pos) 1 jt acc env) env >>= fun _=>again (.compLoop (.ListComp elt [⟨t1,i1,[],0⟩,⟨t2,i2,[],0⟩] scope pos) 0 it acc env)):=by rfl
theorem za5:compTurn (.ListComp elt [⟨t1,i1,[],0⟩,⟨t2,i2,[],0⟩] scope pos) 1 it acc env=(standAt i2.pos >>= fun _=>pyNext it >>= fun r=>match r with
  | none=>pure (.done .next) | some v=>letOwnedTupleGo t2 it v >>= fun _=>assign t2 env v >>= fun _=>(eval elt env >>= fun x=>call (.builtin "list.append") [acc,x] >>= fun _=>pure ()) >>= fun _=> again (.compLoop (.ListComp elt [⟨t1,i1,[],0⟩,⟨t2,i2,[],0⟩] scope pos) 1 it acc env)):=by rfl
theorem z9R(I:Nat->Shared->Prop) (turn:∀ n s,I n s->wpAny (model prog w) A (pyNext it) (fun r s₁=>match r with
   | none=>R (.ok .next) s₁ | some v=>wpAny (model prog w) A (letOwnedTupleGo t2 it v) (fun _ s₁'=>wpAny (model prog w) A (assign t2 env v) (fun _ s₂=>wpAny (model prog w) A (eval elt env) (fun x s₄=> wpAny (model prog w) A (call (.builtin "list.append") [acc,x]) (fun _ s₅=>∃ m,m<n/\I m s₅) (fun _ _=>False) s₄) (fun _ _=>False) s₂) (fun _ _=>False) s₁') (fun _ _=>False) s₁) (fun _ _=>False) s) (n:Nat)(h:I n s):codeAny (model prog w) A (.compLoop (.ListComp elt [⟨t1,i1,[],0⟩,⟨t2,i2,[],0⟩] scope pos) 1 it acc env) R s:=by
 refine codeAny_loop rfl I (fun n s hI=>?_) n h;show wpAny _ A ((compTurn (.ListComp elt [⟨t1,i1,[],0⟩,⟨t2,i2,[],0⟩] scope pos) 1 it acc env).onRaise (fun x=>do noteFrame x env;theTreesLotGoes x)) _ _ s;refine wpAny_noted ?_;rw [za5];refine _a (_aJ (_a (_t (turn n s hI) (fun r s₁ h₁=>?_) fun _ _ h'=>h'.elim)));cases r with
 | none=>exact _c h₁ | some v=>
  refine _a (_t h₁ (fun _ s₁' h₁'=>_a (_t h₁' (fun _ s₂ h₂=>?_) fun _ _ h'=>h'.elim)) fun _ _ h'=>h'.elim);exact _a (_a (_t h₂ (fun x s₄ h₄=>_a (_t h₄ (fun _ s₅ h₅=>_c (_c ⟨rfl,h₅⟩)) fun _ _ h'=>h'.elim)) fun _ _ h'=>h'.elim))
theorem z94(h0:codeAny (model prog w) A (.compLoop (.ListComp elt [⟨t1,i1,[],0⟩,⟨t2,i2,[],0⟩] scope pos) 1 it acc env) R s) (h:wpAny (model prog w) A (pyIter it) (fun it' s'=>codeAny (model prog w) A (.compLoop (.ListComp elt [⟨t1,i1,[],0⟩,⟨t2,i2,[],0⟩] scope pos) 1 it' acc env) R s') (notedBy (model prog w) A env fun x s'=>R (.error x) s') s): codeAny (model prog w) A (.compStart (.ListComp elt [⟨t1,i1,[],0⟩,⟨t2,i2,[],0⟩] scope pos) 1 it acc env) R s:=by
 refine codeAny_of_tree ?_;show wpAny _ _ ((compStart (.ListComp elt [⟨t1,i1,[],0⟩,⟨t2,i2,[],0⟩] scope pos) 1 it acc env).onRaise (fun x=>do noteFrame x env;standAt theWindowsPlace)) _ _ s;refine wpAny_notedAt ?_;unfold compStart;show wpAny _ _ (ask >>= _) _ _ s;refine _a (wpAny_askSetting (wpAny_ite ?_));split;·first
   | exact _a (_c (_c (And.intro rfl h0))) | exact _c (And.intro rfl h0)
 ·first
   | exact _a (_b0 (_a (_aJ (_a (_t h (fun it' s' h'=>_c (And.intro rfl h')) fun _ _ x=>x))))) | (refine _a (_b0 ?_);show wpAny _ _ (standAt i2.pos >>= _) _ _ s;exact _a (_aJ (_a (_t h (fun it' s' h'=>_c (And.intro rfl h')) fun _ _ x=>x))))
theorem zaE(hs2:∀ x,foldedSetIterable i2 env x=pure x)(I:Nat->Shared->Prop) (turn:∀ n s,I n s->wpAny (model prog w) A (pyNext it) (fun r s₁=>match r with
   | none=>R (.ok .next) s₁ | some v=>wpAny (model prog w) A (letOwnedTupleGo t1 it v) (fun _ s₁'=>wpAny (model prog w) A (assign t1 env v) (fun _ s₂=>wpAny (model prog w) A (eval i2 env) (fun x s₃=>wpAny (model prog w) A (pyIter x) (fun jt s₄=> codeAny (model prog w) A (.compStart (.ListComp elt [⟨t1,i1,[],0⟩,⟨t2,i2,[],0⟩] scope pos) 1 jt acc env) (fun r s₅=>match r with | .ok _=>∃ m,m<n/\I m s₅ | .error _=>False) s₄) (fun _ _=>False) s₃) (fun _ _=>False) s₂) (fun _ _=>False) s₁') (fun _ _=>False) s₁) (fun _ _=>False) s) (n:Nat)(h:I n s):codeAny (model prog w) A (.compLoop (.ListComp elt [⟨t1,i1,[],0⟩,⟨t2,i2,[],0⟩] scope pos) 0 it acc env) R s:=by
 refine codeAny_loop rfl I (fun n s hI=>?_) n h;show wpAny _ A ((compTurn (.ListComp elt [⟨t1,i1,[],0⟩,⟨t2,i2,[],0⟩] scope pos) 0 it acc env).onRaise (fun x=>do noteFrame x env;theTreesLotGoes x)) _ _ s;refine wpAny_noted ?_;rw [z9Y];refine _a (_aJ (_a (_t (turn n s hI) (fun r s₁ h₁=>?_) fun _ _ h'=>h'.elim)));cases r with
 | none=>exact _c h₁ | some v=>
  refine _a (_t h₁ (fun _ s₁' h₁'=>_a (_t h₁' (fun _ s₂ h₂=>?_) fun _ _ h'=>h'.elim)) fun _ _ h'=>h'.elim);refine _a (_t h₂ (fun x s₃ h₃=>_a (_aJ (_a (wpAny_of_eq (hs2 x) ?_)))) fun _ _ h'=>h'.elim);refine _a (_au (_t h₃ (fun jt s₄ h₄=>?_) fun _ _ h'=>h'.elim));refine _a (wpAny_runOwn (_co h₄ fun r s₅ h₅=>?_));cases r with
  | ok f=>exact _c ⟨rfl,h₅⟩ | error e=>exact h₅.elim
end
def zeB(wi:TI)(mp:List (Option Nat))(k1 k2:Nat)(wi2:TI)(te:TE):TE:=fun O H Q=>wi O H fun J H1=>∃ W:Nat->Nat->List V->Hp->Prop,(∃ m,W 0 m [] H1)/\∀ i m ys H,W i m ys H-> (J.stop i H/\ys.length<=sizeLine/\∀ p,H p=none->Q (.ref p) (upd H p (.lst ys)))\/ (J.go i H/\∀ x H',J.yld i H x H'->wi2 ((inner mp O).set k1 (some x)) H' fun J2 H3=>∃ W2:Nat->Nat->List V->Hp->Prop,(∃ m2,W2 0 m2 ys H3)/\∀ j m2 ys2 H4,W2 j m2 ys2 H4-> (J2.stop j H4/\∃ m',m'<m/\W (i+1) m' ys2 H4)\/ (J2.go j H4/\∀ x2 H5,J2.yld j H4 x2 H5->te (((inner mp O).set k1 (some x)).set k2 (some x2)) H5 fun y H6=>ys2.length<=sizeLine/\∃ m',m'<m2/\W2 (j+1) m' (ys2++[y]) H6))
theorem z5i{O:St}{i:Nat}{v:V}(h:O[i]? = some none):(O.set i (some v)).length=O.length/\∀ (j:Nat) u,O[j]? = some (some u)->(O.set i (some v))[j]? = some (some u):=by
 refine ⟨by simp,fun j u e=>?_⟩;have:i≠j:=fun z=>by subst z;rw [h] at e;cases e
 rw [_C this];exact e
theorem z74 {X:Cx} {tg iter tg2 iter2 elt:Expr} {scope:Scope} {pos:Pos} {wi2:TI} {te:TE} {N':List Str} {mp:List (Option Nat)} {k1 k2:Nat} {pins:List (Addr×Obj)} {O:St} {Q:VK} {J:It} {H2:Hp} {s₂:Shared} {it:Addr} {fp:List Addr} {tn:Nat->Heap->Prop} {E:Value->Shared->Prop} {RR:Value->Addr->Result->Shared->Prop} (hc:X.calm=true) (hm1:mp[k1]? = some none) (hm2:mp[k2]? = some none) (hk:k1≠k2) (hg:∀ ex s H,PG (zk X N' scope ex s H) tg (z0U k1)) (hg2:∀ ex s H,PG (zk X N' scope ex s H) tg2 (z0U k2)) (hi2:∀ ex s H,PI (zk X N' scope ex s H) tg2 iter2 wi2) (he:∀ ex s H,PE (zk X N' scope ex s H) elt te) (hs2:∀ env x,foldedSetIterable iter2 env x=pure x) (hkd:scope.kind=.function) (hnm:∀ y∈scope.names,scope.names.lookup y.1=some y.2) (hfr:∀ y∈scope.names,y.2=.free->X.env.kindOf y.1=some .cell\/X.env.kindOf y.1=some .free) (hmp:z1F X.N scope.names N' mp=true) (I2:Inv X pins O H2 s₂) (T:zcI X.prog X.w X.K tg J fp it tn) (st2:tn 0 s₂.heap) (f2:∀ b∈fp,z2G X pins H2 b) (W:Nat->Nat->List V->Hp->Prop) (w0:∃ m,W 0 m [] H2) (turn:∀ i m ys H,W i m ys H-> (J.stop i H/\ys.length<=sizeLine/\∀ p,H p=none->Q (.ref p) (upd H p (.lst ys)))\/ (J.go i H/\∀ x H',J.yld i H x H'->wi2 ((inner mp O).set k1 (some x)) H' fun J2 H3=>∃ W2:Nat->Nat->List V->Hp->Prop,(∃ m2,W2 0 m2 ys H3)/\∀ j m2 ys2 H4,W2 j m2 ys2 H4-> (J2.stop j H4/\∃ m',m'<m/\W (i+1) m' ys2 H4)\/ (J2.go j H4/\∀ x2 H5,J2.yld j H4 x2 H5->te (((inner mp O).set k1 (some x)).set k2 (some x2)) H5 fun y H6=>ys2.length<=sizeLine/\∃ m',m'<m2/\W2 (j+1) m' (ys2++[y]) H6))) (hRR:∀ acc C s',km X pins O C Q acc s'->RR acc C (.ok .next) s'): wpAny (model X.prog X.w) X.A (newList []) (fun acc s₃=>wpAny (model X.prog X.w) X.A (newFunctionEnv scope X.env.globals (z4o X.env scope.names []) [] X.env.qual none .none (some X.env)) (fun cenv s₄=> codeAny (model X.prog X.w) X.A (.compStart (.ListComp elt [⟨tg,iter,[],0⟩,⟨tg2,iter2,[],0⟩] scope pos) 0 (.ref it) acc {cenv with scope:=relabel scope X.env}) (RR acc cenv.locals) s₄) E s₃) E s₂:=by
 refine _L ?_;have hf2:H2 s₂.heap.objs.size=none:=I2.hok.fresh (_g _);have fA:z2G X pins H2 s₂.heap.objs.size:=I2.fpOk (_g _) hf2;generalize hacc:s₂.heap.objs.size=acc at hf2 fA ⊢;have I3:Inv X pins O H2 {s₂ with heap:=s₂.heap.push {cls:=.type "list",data:=.seq ([]:List Value).toArray}}:=I2.kept (t':=s₂.toks) fun b o e=>_d _ e;have ha3:(s₂.heap.push {cls:=.type "list",data:=.seq ([]:List Value).toArray}).get? acc=some (LCg.lst []):=by rw [<- hacc];exact _h _ rfl
 have sz3:(s₂.heap.push {cls:=.type "list",data:=.seq ([]:List Value).toArray}).objs.size=acc+1:=by rw [_al,hacc]
 have kp3:∀ b o,s₂.heap.get? b=some o->(s₂.heap.push {cls:=.type "list",data:=.seq ([]:List Value).toArray}).get? b=some o:=fun b o e=>_d _ e;show wpAny _ _ _ _ _ {s₂ with heap:=s₂.heap.push {cls:=.type "list",data:=.seq ([]:List Value).toArray}};generalize hs3:({s₂ with heap:=s₂.heap.push {cls:=.type "list",data:=.seq ([]:List Value).toArray}}:Shared)=s₃ at I3 ⊢;have ha3':s₃.heap.get? acc=some (LCg.lst []):=by rw [<- hs3];exact ha3
 have sz3':s₃.heap.objs.size=acc+1:=by rw [<- hs3];exact sz3
 have kp3':∀ b o,s₂.heap.get? b=some o->s₃.heap.get? b=some o:=by rw [<- hs3];exact kp3
 have flt:∀ b∈fp,b<acc:=fun b hb=>by
  obtain ⟨o,e,_⟩:=T.obj 0 _ st2 b hb;rw [<- hacc];exact _l e
 have fne:∀ b∈fp,b≠acc:=fun b hb=>_x (flt b hb);have tn3:tn 0 s₃.heap:=T.keep 0 _ _ st2 fun b hb o e=>kp3' b o e;refine z2E ?_;rw [xY];have hex:∀ b∈acc::fp,b<s₃.heap.objs.size/\H2 b=none/\b≠X.env.locals/\b∉X.fs/\(b∈X.ex\/X.s₀.heap.objs.size<=b)/\(∀ x c,X.env.cells.lookup x=some c->c≠b):=fun b hb=>by
  rcases _z.mp hb with z | hb
  ·subst z;exact ⟨by rw [sz3'];exact _aT _,hf2,fA.2.1,fA.2.2.1,fA.2.2.2.1,fA.2.2.2.2.1⟩
  ·have q:=f2 b hb;exact ⟨by rw [sz3'];exact _aj (flt b hb),q.1,q.2.1,q.2.2.1,q.2.2.2.1,q.2.2.2.2.1⟩
 have I4:=z3G (N':=N') (mp:=mp) (ex:=acc::fp) (s1:={s₃ with heap:=pushCells (s₃.heap.push {cls:=.type "dict",data:=.dict #[]}) scope.names}) I3 hkd hnm hfr hmp hex rfl rfl rfl;have kp4:∀ b o,s₃.heap.get? b=some o->(pushCells (s₃.heap.push {cls:=.type "dict",data:=.dict #[]}) scope.names).get? b=some o:=fun b o e=>_ce _ _ b o (_d _ e);generalize hs4:({s₃ with heap:=pushCells (s₃.heap.push {cls:=.type "dict",data:=.dict #[]}) scope.names}:Shared)=s₄ at I4 ⊢;have ha4:s₄.heap.get? acc=some (LCg.lst []):=by rw [<- hs4];exact kp4 _ _ ha3'
 have tn4:tn 0 s₄.heap:=T.keep 0 _ _ tn3 fun b hb o e=>by rw [<- hs4];exact kp4 b o e
 have Cne:acc≠s₃.heap.objs.size:=by rw [sz3'];exact _x (_aT _)
 have celln:∀ b∈acc::fp,∀ x c,(z7L X scope s₃.heap.objs.size).cells.lookup x=some c->c≠b:=fun b hb=>(I4.ok.exf b hb).2;have stat:∀ {H':Hp} {o:Obj},(∀ b∈fp,H' b=none)->∀ b∈fp,z2G (zk X N' scope (acc::fp) s₃ H2) [(acc,o)] H' b:=fun {H' o} hn b hb=> ⟨hn b hb,_x (by show b<s₃.heap.objs.size;rw [sz3'];exact _aj (flt b hb)),fun hf=>I4.ok.exfs b (_y _ hb) hf,.inl (_y _ hb),celln b (_y _ hb),fun p hp=>by
   have e:p=(acc,o):=by simpa [zk] using hp
   rw [e];exact _a5 (fne b hb)⟩;have accP:∀ (its:List Value) (v:Option Value),(LCg.lst its).data≠.cell v:=fun its v z=>by
  have z':Data.seq _ _=Data.cell v:=z;cases z'
 have pinA:∀ {P:List (Addr×Obj)} {O':St} {H':Hp} {s':Shared} {its:List Value},Inv (zk X N' scope (acc::fp) s₃ H2) P O' H' s'->H' acc=none->s'.heap.get? acc=some (LCg.lst its)->Inv (zk X N' scope (acc::fp) s₃ H2) ([(acc,LCg.lst its)]++P) O' H' s':=fun {P O' H' s' its} J' n' e'=> J'.pins_of fun p hp=>by
   rcases _V.mp hp with hp | hp
   ·have e:p=(acc,LCg.lst its):=by simpa using hp
    subst e;exact ⟨e',n',Cne,fun hf=>I4.ok.exfs acc _M hf,accP its⟩
   ·exact J'.pin p (_p _ hp)
 obtain ⟨m0,w0⟩:=w0;have loop:codeAny (model X.prog X.w) X.A (.compLoop (.ListComp elt [⟨tg,iter,[],0⟩,⟨tg2,iter2,[],0⟩] scope pos) 0 (.ref it) (.ref acc) (z7L X scope s₃.heap.objs.size)) (RR (.ref acc) s₃.heap.objs.size) s₄:=by
  refine zaE (hs2 _) (fun n s'=>∃ i ys its H',Inv (zk X N' scope (acc::fp) s₃ H2) [] (inner mp O) H' s'/\tn i s'.heap/\(∀ b∈fp,H' b=none)/\H' acc=none/\s'.heap.get? acc=some (LCg.lst its)/\ym ys its/\W i n ys H') ?_ m0 ⟨0,[],[],H2,I4,tn4,fun b hb=>(f2 b hb).1,hf2,ha4,.nil,w0⟩;rintro n s5 ⟨i,ys,its,H5,I5,tn5,n5,na5,ea5,rv5,w5⟩;have I5':Inv (zk X N' scope (acc::fp) s₃ H2) [(acc,LCg.lst its)] (inner mp O) H5 s5:=pinA I5 na5 ea5;rcases turn i n ys H5 w5 with ⟨stop,hz,q⟩ | ⟨go,step⟩
  ·refine _t (T.done (zk X N' scope (acc::fp) s₃ H2) rfl rfl rfl hc i _ s5 _ H5 (fun _ _=>False) I5' (stat n5) tn5 stop) (fun r s6 ⟨hr,I6⟩=>?_) fun _ _ z=>z;subst hr;have ea6:=(I6.pin (acc,LCg.lst its) (by simp)).1;have un:Un (frs X.stack) (acc::fp) H2 H5 s₃.heap s6.heap:=I6.base;have I7:Inv X pins O H5 s6:=I3.call' (s':=s6) (I6.os) un I6.hok I6.bare fun b hb=>by
    rcases _z.mp hb with z | hb;·subst z;exact ⟨fA.2.2.2.1,fA.2.1,fA.2.2.2.2.1,fA.2.2.2.2.2⟩
    ·exact ⟨(f2 b hb).2.2.2.1,(f2 b hb).2.1,(f2 b hb).2.2.2.2.1,(f2 b hb).2.2.2.2.2⟩
   have C7:z2G X pins H5 s₃.heap.objs.size:=I3.fpOk (_g _) I6.free;refine hRR _ _ s6 ⟨.ref acc,upd H5 acc (.lst ys),I7.track ⟨na5,fA.2⟩ ?_,rfl,q acc na5,?_,?_,C7.2⟩;·exact ⟨hz,its,_,rv5,ea6⟩
   ·obtain ⟨m,hm,_⟩:=I6.loc;exact ⟨m,hm⟩
   ·rw [zx (_a5 Cne)];exact I6.free
  ·refine _t (T.item (zk X N' scope (acc::fp) s₃ H2) rfl rfl rfl hc i _ s5 _ H5 (fun _ _=>False) I5' (stat n5) tn5 go) (fun r s6 ⟨u,hr,h6⟩=>?_) fun _ _ z=>z;subst hr;refine _t h6 (fun _ s7 ⟨x,H7,I7,r7,y7,tn7,n7⟩=>?_) fun _ _ z=>z;have I7':=I7.pinned (stat n7) (T.obj _ _ tn7);generalize hP:z3C fp s7.heap=P7 at I7';have inP:∀ b∈fp,∀ o,s7.heap.get? b=some o->(b,o)∈P7:=fun b hb o e=>by rw [<- hP];exact wC hb e
   have back:∀ {O':St} {H':Hp} {s':Shared} {its':List Value},Inv (zk X N' scope (acc::fp) s₃ H2) ([(acc,LCg.lst its')]++P7) O' H' s'->(∀ b∈fp,H' b=none)/\H' acc=none/\s'.heap.get? acc=some (LCg.lst its')/\tn (i+1) s'.heap:=fun {O' H' s' its'} J'=>by
    have z:=J'.pin (acc,LCg.lst its') (by simp [zk]);have zz:∀ b∈fp,∀ o,s7.heap.get? b=some o->s'.heap.get? b=some o/\H' b=none:=fun b hb o e=>by
     have y:=J'.pin (b,o) (_p _ (_p _ (inP b hb o e)));exact ⟨y.1,y.2.1⟩
    refine ⟨fun b hb=>?_,z.2.1,z.1,T.keep _ _ _ tn7 fun b hb o e=>(zz b hb o e).1⟩;obtain ⟨o,e,_⟩:=T.obj _ _ tn7 b hb;exact (zz b hb o e).2
   have ow1:(inner mp O)[k1]? = some none:=by simp [L2.inner,hm1]
   have kp1:=z5i (v:=x) ow1;have ow2:((inner mp O).set k1 (some x))[k2]? = some none:=by rw [_C hk];simp [L2.inner,hm2]
   refine _t (hg _ _ _ _ s7 (inner mp O) H7 x u (fun O8 H8=>O8=(inner mp O).set k1 (some x)/\H8=H7) I7' r7 ⟨rfl,rfl⟩) (fun _ s8 ⟨O8,H8,I8,e8,e8'⟩=>?_) fun _ _ z=>z;subst e8 e8';refine _t (hi2 _ _ _ _ s8 _ H8 _ I8 (step x H8 y7)) (fun xv s9 h9=>?_) fun _ _ z=>z;refine _t h9 (fun jt s10 h10=>?_) fun _ _ z=>z;obtain ⟨it2,fp2,tn2,J2,H10,e10,I10,T2,st10,f10,W2,⟨m2,v0⟩,turn2⟩:=h10;subst e10;obtain ⟨_,na10,ea10,_⟩:=back I10;have stat2:∀ {H':Hp} {its':List Value},(∀ b∈fp2,H' b=none)->∀ b∈fp2,z2G (zk X N' scope (acc::fp) s₃ H2) ([(acc,LCg.lst its')]++P7) H' b:=fun {H' its'} hn b hb=>by
    obtain ⟨q1,q2,q3,q4,q5,q6⟩:=f10 b hb;refine ⟨hn b hb,q2,q3,q4,q5,fun p hp=>?_⟩;rcases _V.mp hp with hp | hp;·exact q6 p (_ad _ hp)
    ·rcases _V.mp hp with hp | hp
     ·have e:p=(acc,LCg.lst its'):=by simpa using hp
      rw [e];exact q6 (acc,LCg.lst its) (_p _ (_ad _ (by simp)))
     ·exact q6 p (_p _ (_p _ hp))
   have unA:∀ {O':St} {H':Hp} {s':Shared} {its':List Value},Inv (zk X N' scope (acc::fp) s₃ H2) ([(acc,LCg.lst its')]++P7) O' H' s'->Inv (zk X N' scope (acc::fp) s₃ H2) P7 O' H' s':=fun J'=>J'.pins_of fun p hp=>J'.pin p (_p _ (_p _ hp));have loop2:codeAny (model X.prog X.w) X.A (.compLoop (.ListComp elt [⟨tg,iter,[],0⟩,⟨tg2,iter2,[],0⟩] scope pos) 1 (.ref it2) (.ref acc) (z7L X scope s₃.heap.objs.size)) (fun r s'=>match r with | .ok _=>∃ m,m<n/\∃ i ys its H',Inv (zk X N' scope (acc::fp) s₃ H2) [] (inner mp O) H' s'/\tn i s'.heap/\(∀ b∈fp,H' b=none)/\H' acc=none/\s'.heap.get? acc=some (LCg.lst its)/\ym ys its/\W i m ys H' | .error _=>False) s10:=by
    refine z9R (fun n' s'=>∃ j ys2 its2 H',Inv (zk X N' scope (acc::fp) s₃ H2) P7 ((inner mp O).set k1 (some x)) H' s'/\tn2 j s'.heap/\(∀ b∈fp2,H' b=none)/\H' acc=none/\s'.heap.get? acc=some (LCg.lst its2)/\ym ys2 its2/\W2 j n' ys2 H') ?_ m2 ⟨0,ys,its,H10,unA I10,st10,fun b hb=>(f10 b hb).1,na10,ea10,rv5,v0⟩;rintro n' s11 ⟨j,ys2,its2,H11,I11,tn11,n11,na11,ea11,rv11,v11⟩;have I11':=pinA I11 na11 ea11;rcases turn2 j n' ys2 H11 v11 with ⟨stop2,m',lt,w12⟩ | ⟨go2,step2⟩
    ·refine _t (T2.done (zk X N' scope (acc::fp) s₃ H2) rfl rfl rfl hc j _ s11 _ H11 (fun _ _=>False) I11' (stat2 n11) tn11 stop2) (fun r s12 ⟨hr,I12⟩=>?_) fun _ _ z=>z;subst hr;obtain ⟨z1,z2,z3,z4⟩:=back I12;exact ⟨m',lt,i+1,ys2,its2,H11,(I12.pins_of (pins':=[]) (fun p hp=>absurd hp (by simp))).weak kp1.1.symm kp1.2,z4,z1,z2,z3,rv11,w12⟩
    ·refine _t (T2.item (zk X N' scope (acc::fp) s₃ H2) rfl rfl rfl hc j _ s11 _ H11 (fun _ _=>False) I11' (stat2 n11) tn11 go2) (fun r s12 ⟨u2,hr,h12⟩=>?_) fun _ _ z=>z;subst hr;refine _t h12 (fun _ s13 ⟨x2,H13,I13,r13,y13,tn13,n13⟩=>?_) fun _ _ z=>z;have I13':=I13.pinned (stat2 n13) (T2.obj _ _ tn13);have kp2:=z5i (v:=x2) ow2;refine _t (hg2 _ _ _ _ s13 _ H13 x2 u2 (fun O14 H14=>O14=((inner mp O).set k1 (some x)).set k2 (some x2)/\H14=H13) I13' r13 ⟨rfl,rfl⟩) (fun _ s14 ⟨O14,H14,I14,e14,e14'⟩=>?_) fun _ _ z=>z;subst e14 e14';refine _t (he _ _ _ _ s14 _ H14 _ I14 (step2 x2 H14 y13)) (fun yv s15 ⟨y,H15,I15,r15,hz,m',lt,v15⟩=>?_) fun _ _ z=>z;have I15u:Inv (zk X N' scope (acc::fp) s₃ H2) ([(acc,LCg.lst its2)]++P7) _ H15 s15:=I15.unpinned;obtain ⟨z1,z2,z3,z4⟩:=back I15u;have zz:∀ b∈fp2,∀ o,s13.heap.get? b=some o->s15.heap.get? b=some o/\H15 b=none:=fun b hb o e=>by
      have y:=I15.pin (b,o) (_p _ (_p _ (wC hb e)));exact ⟨y.1,y.2.1⟩
     have fne2:∀ b∈fp2,b≠acc:=fun b hb=>by
      have:=(f10 b hb).2.2.2.2.2 (acc,LCg.lst its) (_p _ (_ad _ (by simp)));exact _a5 this
     have zl:its2.toArray.size<=sizeLine:=by rw [_j,<- rv11.length];exact hz
     refine append_at (hsz:=zl) z3 fun h16 sb ea16=>?_;have I15w:=(unA I15u).weak kp2.1.symm kp2.2;have aP:∀ p∈(zk X N' scope (acc::fp) s₃ H2).pn++P7,p.1≠acc:=fun p hp=>by
      have hp':p∈P7:=by simpa [zk] using hp
      rw [<- hP] at hp';obtain ⟨b,hb,e⟩:=_bD.mp hp';obtain ⟨o,_,e2⟩:=_v.mp e;rw [<- e2];exact fne b hb
     have I16:Inv (zk X N' scope (acc::fp) s₃ H2) P7 ((inner mp O).set k1 (some x)) H15 {s15 with heap:=h16}:=I15w.turned (t':=s15.toks) (fun b o hb e=>(sb.2 b hb).trans e) z2 Cne (.inl _M) (celln acc _M) aP;refine ⟨m',lt,j+1,ys2++[y],its2++[yv],H15,I16,T2.keep _ _ _ tn13 (fun b hb o e=>(sb.2 b (fne2 b hb)).trans (zz b hb o e).1),fun b hb=>?_,z2,ea16.trans (_aC some (LCg.lst_snoc its2 yv)),rv11.append (.cons r15 .nil),v15⟩;obtain ⟨o,e,_⟩:=T2.obj _ _ tn13 b hb;exact (zz b hb o e).2
   exact z94 loop2 (T2.self _ 0 _ _ _ st10 loop2)
 exact codeAny_compStart_list loop (T.self _ 0 _ _ _ tn4 loop)
section
variable {X:Cx}{tg iter tg2 iter2 elt:Expr}{scope:Scope}{pos spos py:Pos}{wi wi2:TI}{te:TE}{k1 k2:Nat}
theorem z6Q {i:Nat} {y:Str} (N':List Str) (mp:List (Option Nat)) (hN:X.N.Nodup) (hy:X.N[i]? = some y) (hyl:Loc X.env.scope y) (hc:X.calm=true) (hm1:mp[k1]? = some none) (hm2:mp[k2]? = some none) (hk:k1≠k2) (hi:PI X tg iter wi) (hg:∀ ex s H,PG (zk X N' scope ex s H) tg (z0U k1)) (hg2:∀ ex s H,PG (zk X N' scope ex s H) tg2 (z0U k2)) (hi2:∀ ex s H,PI (zk X N' scope ex s H) tg2 iter2 wi2) (he:∀ ex s H,PE (zk X N' scope ex s H) elt te) (hs2:∀ env x,foldedSetIterable iter2 env x=pure x) (hkd:scope.kind=.function) (hnm:∀ y∈scope.names,scope.names.lookup y.1=some y.2) (hfr:∀ y∈scope.names,y.2=.free->X.env.kindOf y.1=some .cell\/X.env.kindOf y.1=some .free) (hmp:z1F X.N scope.names N' mp=true) (hs:∀ x,foldedSetIterable iter X.env x=pure x:=by intro _;rfl) (hsw:swapsWith (.ListComp elt [⟨tg,iter,[],0⟩,⟨tg2,iter2,[],0⟩] scope pos) (some (.Name y py)) spos.line X.env=pure true:=by rfl) (hf:X.fn y=true\/X.env.scope.names.lookup y=some .local:=by first | exact .inl rfl | exact .inr rfl | assumption): PS X (.Assign [.Name y py] (.ListComp elt [⟨tg,iter,[],0⟩,⟨tg2,iter2,[],0⟩] scope pos) spos) (fun D O H=>zeB wi mp k1 k2 wi2 te O H (z9w fun v H'=>D.nx (O.set i (some v)) H')):=by
 intro pins s O H D I h;rw [_bT _ _ _ _ hsw];refine _a (_aJ (_a ?_));show wpAny _ X.A (do let _ <- comprehension (.ListComp elt [⟨tg,iter,[],0⟩,⟨tg2,iter2,[],0⟩] scope pos) scope X.env _ (newList []) false (eval iter X.env) (some (assign (.Name y py) X.env))) _ _ s;refine _a (_t (_ba (use:=some (assign (.Name y py) X.env)) (Q:=fun _ s'=>SP X pins D .next s') rfl hs (vk fun y hy hf=>I.ok.has _ (hfr y hy hf)) hkd (fun y hy hl=>by rw [hnm y hy,hl]) (thn (hi pins s O H _ I h) fun xv s₁ h₁=>thn h₁ fun itv s₂ h₂=>?_)) (fun _ s' hq=>_c (_c hq)) fun _ _ e=>e);obtain ⟨it,fp,tn,J,H2,e,I2,T,st2,f2,W,w0,turn⟩:=h₂;subst e;refine z74 (N':=N') (mp:=mp) (O:=O) (pins:=pins) (Q:=z9w fun v H'=>D.nx (O.set i (some v)) H') (RR:=fun acc C=>compPost (model X.prog X.w) X.A X.xe (some (assign (.Name y py) X.env)) (fun _ s'=>SP X pins D .next s') acc C) hc hm1 hm2 hk hg hg2 hi2 he hs2 hkd hnm hfr hmp I2 T st2 f2 W w0 turn ?_;intro acc C s' hd;obtain ⟨v,Hf,I3,r,q,⟨m,hm⟩,f⟩:=hd.freeze;refine _bK (kH I3 hN hy hyl r (fun s'' I4 ⟨a,sb,ha⟩=>?_) hf);have hC:C≠a:=by
  rcases ha with z | z;·rw [z];exact f.2.1
  ·exact _a5 (f.2.2.2.2.1 y a z)
 exact ⟨m,hm.sameBut sb hC,fun h' sb'=>⟨_,Hf,qk I4 f sb',q⟩⟩
end
end L2
namespace Dd
open L2
open Classical in
def z47(g:List (Nat×List D))(all:List D)(body:D->List D->Sto->R (List D)):List D->List D->Sto->R (List D)
 | [],acc,s=>if okG g all s then .ok acc s else .no | x::xs,acc,s=>if okG g all s then (body x acc s).bind fun acc' s1=>z47 g all body xs acc' s1 else .no
def z8b(fi:FI)(mp:List (Option Nat))(k1 k2:Nat)(fi2:FI)(fe:FE):FA:=fun Z s=>(fi Z s).bind fun it s1=>z47 it.2 it.1 (fun d acc s=>(fi2 ((zU mp Z).set k1 (some d)) s).bind fun it2 s2=>wm it2.2 it2.1 (fun d2 s=>(fe (((zU mp Z).set k1 (some d)).set k2 (some d2)) s).bind fun d s3=>.ok (some d) s3) it2.1 acc s2) it.1 [] s1
section
variable {X:Cx}{E:XK}{tg iter tg2 iter2 elt:Expr}{pos spos py:Pos}{mp:List (Option Nat)}{k1 k2:Nat}{fi fi2:FI}{fe:FE}{scope:Scope}
theorem zbR{O:L2.St}{H:Hp}{Q:VK}{Y:List Addr}{Z:Ev}{s:Sto}{β:Type}{kR:List D->Sto->R β}{β2:Type}{Dn:Hp->List Addr->β->β2->Prop}{Q2:β2->Hp->Prop}(r:Rep (gm X) H Y s)(en:vG (gm X) H Y Z O) (h:okR (gm X) E H Y Dn ((z8b fi mp k1 k2 fi2 fe Z s).bind kR) Q2) (fin:∀ H1 Y1 s1 xs vs,Rep (gm X) H1 Y1 s1->vG (gm X) H1 Y1 Z O->zq (gm X) H1 Y1 xs vs->okR (gm X) E H1 Y1 Dn (kR xs s1) Q2->xs.length<=cap->∀ p,H1 p=none->Q (.ref p) (upd H1 p (.lst vs))): zeB (tI (gm X) E fi) mp k1 k2 (tI (gm X) E fi2) (tE (gm X) E fe) O H Q:=by
 unfold z8b at h;have assoc:∀ {α γ δ:Type}(x:R α)(f:α->Sto->R γ)(k:γ->Sto->R δ),(x.bind f).bind k=x.bind fun a s=>(f a s).bind k:=fun x f k=>by cases x<;>rfl
 rw [assoc] at h;refine ⟨Y,Z,s,r,en,(okR.bind (Dn:=zc5 (gm X)) h).imp fun J H1 ⟨Y1,s1,it,stp,ok,h1⟩=>?_⟩;obtain ⟨items,gd⟩:=it;simp only at h1;generalize hb:(fun (d:D)(acc:List D)(s:Sto)=>(fi2 ((zU mp Z).set k1 (some d)) s).bind fun it2 s2=>wm it2.2 it2.1 (fun d2 s=>(fe (((zU mp Z).set k1 (some d)).set k2 (some d2)) s).bind fun d s3=>R.ok (some d) s3) it2.1 acc s2)=body at h1;refine ⟨fun i m ys H=>∃ Y s acc,xr (gm X) H1 Y1 H Y s/\zq (gm X) H Y acc ys/\acc.length<=cap/\m=items.length-i/\i<=items.length/\okR (gm X) E H Y Dn ((z47 gd items body (items.drop i) acc s).bind kR) Q2, ⟨items.length,Y1,s1,[],.refl stp.rep,zq.nil,_ae _,by simp,_ae _,by simpa using h1⟩,?_⟩;rintro i m ys H2 ⟨Y2,s2,acc,stp2,dn2,hcap,rfl,hil,h2⟩;have en2:vG (gm X) H2 Y2 Z O:=(en.mono stp).mono stp2;by_cases hlt:i<items.length
 ·right;rw [_aF hlt,z47] at h2;split at h2
  ·rename_i hG;obtain ⟨go,yl⟩:=((ok H2 Y2 s2 stp2 hG i).1 items[i] (_e hlt));refine ⟨go,fun x H' y=>?_⟩;obtain ⟨Y3,stp3,dn3⟩:=yl x H' y;have h3:=okR.rebase h2 stp3;rw [<- hb] at h3;simp only at h3;rw [hb,assoc,assoc] at h3;have en3:vG (gm X) H' Y3 ((zU mp Z).set k1 (some items[i])) ((inner mp O).set k1 (some x)):=((en2.mono stp3).inner).set dn3 k1;refine ⟨Y3,(zU mp Z).set k1 (some items[i]),s2,stp3.rep,en3,(okR.bind (Dn:=zc5 (gm X)) h3).imp fun J2 H4 ⟨Y4,s4,it2,stp4,ok2,h4⟩=>?_⟩;obtain ⟨items2,gd2⟩:=it2;simp only at h4;generalize hb2:(fun (d2:D)(s:Sto)=>(fe (((zU mp Z).set k1 (some items[i])).set k2 (some d2)) s).bind fun d s3=>R.ok (some d) s3)=body2 at h4;have zjB:xr (gm X) H1 Y1 H4 Y4 s4:=(stp2.trans stp3).trans stp4;refine ⟨fun j m2 ys2 H=>∃ Y s acc2,xr (gm X) H4 Y4 H Y s/\zq (gm X) H Y acc2 ys2/\acc2.length<=cap/\m2=items2.length-j/\j<=items2.length/\okR (gm X) E H Y Dn ((wm gd2 items2 body2 (items2.drop j) acc2 s).bind fun acc' s1=>(z47 gd items body (items.drop (i+1)) acc' s1).bind kR) Q2, ⟨items2.length,Y4,s4,acc,.refl stp4.rep,(dn2.mono stp3).mono stp4,hcap,by simp,_ae _,by simpa using h4⟩,?_⟩;rintro j m2 ys2 H5 ⟨Y5,s5,acc2,stp5,dn5,hcap2,rfl,hjl,h5⟩;have en5:vG (gm X) H5 Y5 ((zU mp Z).set k1 (some items[i])) ((inner mp O).set k1 (some x)):=(en3.mono stp4).mono stp5;by_cases hlt2:j<items2.length
   ·right;rw [_aF hlt2,wm] at h5;split at h5
    ·rename_i hG2;obtain ⟨go2,yl2⟩:=((ok2 H5 Y5 s5 stp5 hG2 j).1 items2[j] (_e hlt2));refine ⟨go2,fun x2 H6 y2=>?_⟩;obtain ⟨Y6,stp6,dn6⟩:=yl2 x2 H6 y2;have h6:=okR.rebase h5 stp6;rw [<- hb2] at h6;simp only at h6;rw [hb2,assoc,assoc] at h6;have en6:=(en5.mono stp6).set dn6 k2;refine ⟨Y6,((zU mp Z).set k1 (some items[i])).set k2 (some items2[j]),s5,stp6.rep,en6,(okR.bind (Dn:=Den (gm X)) h6).imp fun yv H7 ⟨Y7,s7,d7,stp7,dn7,h7⟩=>?_⟩;simp only [Rb] at h7;split at h7
     ·rename_i hcc;have all7:=(stp5.trans stp6).trans stp7;refine ⟨by rw [dn5.length];exact uj hcap2,items2.length-(j+1),by omega,Y7,s7,acc2++[d7],all7,((dn5.mono stp6).mono stp7).append (zq.one dn7),by simp;omega,rfl,hlt2,h7⟩
     ·exact h7.elim
    ·exact h5.elim
   ·left;have e:j=items2.length:=by omega
    subst e;rw [_b1,wm] at h5;split at h5
    ·rename_i hG2;simp only [Rb] at h5;exact ⟨(ok2 H5 Y5 s5 stp5 hG2 _).2 (_g _),items.length-(i+1),by omega,Y5,s5,acc2,zjB.trans stp5,dn5,hcap2,rfl,hlt,h5⟩
    ·exact h5.elim
  ·exact h2.elim
 ·left;have e:i=items.length:=by omega
  subst e;rw [_b1,z47] at h2;split at h2
  ·rename_i hG;simp only [Rb] at h2;exact ⟨(ok H2 Y2 s2 stp2 hG _).2 (_g _),by rw [dn2.length];exact uj hcap,fin H2 Y2 s2 acc ys stp2.rep en2 dn2 h2 hcap⟩
  ·exact h2.elim
def z6s(fi:FI)(mp:List (Option Nat))(k1 k2:Nat)(fi2:FI)(fe:FE):FE:=fun Z s=>(z8b fi mp k1 k2 fi2 fe Z s).bind fun xs s1=>.ok (.lst xs) s1
theorem zg8 (i:Nat) {y:Str} (N':List Str) (mp:List (Option Nat)) (k1 k2:Nat) (hN:X.N.Nodup) (hc:X.calm=true) (hi:RI X E tg iter fi) (hg:∀ ex s H,PG (zk X N' scope ex s H) tg (z0U k1)) (hg2:∀ ex s H,PG (zk X N' scope ex s H) tg2 (z0U k2)) (hi2:∀ ex s H,RI (zk X N' scope ex s H) E tg2 iter2 fi2) (he:∀ ex s H,RE (zk X N' scope ex s H) E elt fe) (hm1:mp[k1]? = some none:=by rfl) (hm2:mp[k2]? = some none:=by rfl) (hk:k1≠k2:=by decide) (hs2:∀ env x,foldedSetIterable iter2 env x=pure x:=by intro _ _;rfl) (hkd:scope.kind=.function:=by rfl) (hnm:z9Q scope.names=true:=by rfl) (hfr:zbx X.env.kindOf scope.names=true:=by rfl) (hmp:z1F X.N scope.names N' mp=true:=by rfl) (hy:X.N[i]? = some y:=by rfl) (hyl:Loc X.env.scope y:=by first | exact Or.inl rfl | exact Or.inr rfl) (hs:∀ x,foldedSetIterable iter X.env x=pure x:=by intro _;rfl) (hsw:swapsWith (.ListComp elt [⟨tg,iter,[],0⟩,⟨tg2,iter2,[],0⟩] scope pos) (some (.Name y py)) spos.line X.env=pure true:=by rfl) (hf:X.fn y=true\/X.env.scope.names.lookup y=some .local:=by first | exact .inl rfl | exact .inr rfl | assumption): RS X E (.Assign [.Name y py] (.ListComp elt [⟨tg,iter,[],0⟩,⟨tg2,iter2,[],0⟩] scope pos) spos) (yt i (z6s fi mp k1 k2 fi2 fe)):= vK (z6Q (te:=tE (gm X) E fe) (wi2:=tI (gm X) E fi2) N' mp hN hy hyl hc hm1 hm2 hk hi hg hg2 (fun ex s H=>hi2 ex s H) (fun ex s H=>he ex s H) hs2 hkd (z1y hnm) (z1q hfr) hmp hs hsw hf) fun D O H ⟨Y,Z,s,r,en,h⟩=>by
  have assoc:∀ {α γ δ:Type} (x:R α) (f:α->Sto->R γ) (k:γ->Sto->R δ),(x.bind f).bind k=x.bind fun a s=>(f a s).bind k:=fun x f k=>by cases x<;>rfl
  unfold yt z6s at h;rw [assoc] at h;refine zbR r en h fun H1 Y1 s1 xs vs r1 en1 dn h1 hcap p hp=>?_;refine kb (E:=E) (mg:=gm X) (xs:=xs) r1 (fun v H2 Y2 stp dn2=>?_) dn p hp;exact h1 (.nx (O.set i (some v))) H2 Y2 stp ((en1.mono stp).set dn2 i)
end
end Dd
namespace L2
def zcr:V->List V->Hp->VK->Prop:=fun x vs H Q=>∃ l b xs zs,x=.ref l/\vs=[.ref b]/\H l=some (.lst xs)/\Rd H b (.lst zs)/\xs.length+zs.length<=sizeLine/\Q .non (upd H l (.lst (xs++zs)))
theorem z9n{X:Cx}:MtM X "list.extend" zcr:=by
 intro pins s O H x vs v us Q I rx rv h;obtain ⟨l,b,xs,zs,rfl,rfl,hH,hB,hz,q⟩:=h;cases rx;obtain ⟨u,rfl,ru⟩:=rv.one;cases ru;obtain ⟨z,its,n,r,hl,e⟩:=I.lstM hH;obtain ⟨z2,its2,n2,r2,e2⟩:=hB.ok I.hok;have l1:=r.length;have l2:=r2.length;refine _bZ F.slot_list_extend ⟨_,e,rfl⟩ F.entry_list_extend (F.args_list_extend_2 _ _) (AutoSeq1.list_extend_list_list_0 l its.toArray n b its2.toArray n2 ?_ (by rw [_j];omega) (by rw [_j,_j];omega)) ⟨e,e2,?_⟩
 ·intro q';simp only [_E] at q';have:=q'.2;simp only [Builtin.List.listTooLong,_j,_at] at this;omega
 ·refine ⟨.non,_,I.lset (its':=its++its2) hH e (by simp) (r.append r2) ?_,rfl,q⟩;rw [_X];omega
end L2
namespace Dd
open L2
section
variable {X:Cx}{E:XK}{e:Expr}{pos:Pos}
def zja(fo fv:FE):FE:=fun Z s=>(fo Z s).bind fun o s1=>match o with
 | .loc l=>(fv Z s1).bind fun d s2=>match d with
  | .lst ys=>match s2[l]? with
   | some xs=>if D.flat.flats ys=true/\xs.length+ys.length<=cap then .ok .non (s2.set l (xs++ys)) else .no | none=>.no
  | _=>.no
 | _=>.no
theorem zdb {o:Expr} {apos:Pos} {fo fv:FE} (ho:RE X E o fo) (hv:RE X E e fv) (hbase:attributeBase o "extend" X.env (eval o X.env)=eval o X.env:=by rfl) (hfew:((backTo pos (starEach [e] X.env)).all (fun x=>!x.1)&&(backToKw pos (keywordEach [] X.env)).all (fun x=>x.1.isSome) && decide ([e].length+([]:List Keyword).length+(if ([]:List Keyword).isEmpty then 0 else 1)<30))=true:=by rfl) (hline:(apos.endLine==pos.line)=true:=by rfl) (hs:starEach [e] X.env=(false,eval e X.env)::starEach [] X.env:=by rfl) (hplain:(backTo pos (starEach [] X.env)).any (·.1)=false:=by rfl): RE X E (.Call (.Attribute o "extend" apos) [e] [] pos) (zja fo fv):= zE (zdq _bf PySem.F.slot_list_extend PySem.F.type_list_extend z9n ho (yT hv ux hs) hbase hfew hline hs hplain) fun O H Q ⟨Y,Z,s,r,en,h⟩=>by
  unfold zja at h;refine ⟨Y,Z,s,r,en,(okR.bind (Dn:=Den (gm X)) h).imp fun ov H1 ⟨Y1,s1,od,stp,dn,h1⟩=>?_⟩;cases od with
  | loc l=>
   simp only at h1;have hty:tyV X.K "list" ov H1:=by
    simp only [Den] at dn;obtain ⟨a,rfl,e1,vs,e2⟩:=dn;exact .inl ⟨rfl,vs,.inl (.inl e2)⟩
   refine ⟨hty,⟨Y1,Z,s1,stp.rep,en.mono stp,(okR.bind (Dn:=Den (gm X)) h1).imp fun v H2 ⟨Y2,s2,d,stp2,dn2,h2⟩=>?_⟩⟩;cases d with
   | lst ys=>
    simp only at h2;split at h2
    ·rename_i xs ex;split at h2
     ·rename_i hf;have dov:=dn.mono stp2;simp only [Den] at dov dn2;obtain ⟨a,rfl,e1,ka⟩:=dov;obtain ⟨b,o',ws,rfl,eb,dw⟩:=dn2;obtain ⟨vs,q1,q2⟩:=stp2.rep.at_ ex e1 ka;have stp3:=xr.put (l:=l) (xs:=xs++ys) stp2.rep e1 ka (q2.append dw) (qM (stp2.rep.flat xs (_A ex)) hf.1);refine ⟨a,b,vs,ws,rfl,rfl,q1,.inr ⟨o',eb⟩,by rw [q2.length,dw.length];exact uj hf.2,h2 .non _ _ stp3 (by simp [Den])⟩
     ·exact h2.elim
    ·exact h2.elim | _=>exact h2.elim
  | _=>exact h1.elim
@[simp] theorem zj2 (fo fv:FE)(Z:Ev)(s:Sto):zja fo fv Z s=(fo Z s).bind fun o s1=>match o with
 | .loc l=>(fv Z s1).bind fun d s2=>match d with
  | .lst ys=>match s2[l]? with
   | some xs=>if D.flat.flats ys=true/\xs.length+ys.length<=cap then .ok .non (s2.set l (xs++ys)) else .no | none=>.no
  | _=>.no
 | _=>.no:=id rfl
end
end Dd
namespace L2
def n3(a b c:Int):Nat:=if a<b then ((b-a-1) / c+1).toNat else 0
end L2
namespace Dd
open L2
open PySem.W
theorem z8i{α β:Type}{n:Nat}{lt:Nat->Nat->Bool}(f:α->KasT β):∀ t:KasT α,kev n lt (t.bind f)=(kev n lt t).bind fun a=>kev n lt (f a)
 | .ret a=>rfl | .ask i j k=>by
  show (if i<n/\j<n then kev n lt ((k (lt i j)).bind f) else none)=(if i<n/\j<n then kev n lt (k (lt i j)) else none).bind _;split;·exact z8i f _
  ·rfl
section
variable {N:Nat}{lt:Nat->Nat->Bool}(tot:∀ i j,i<N->j<N->i≠j->lt j i=!lt i j)(tr:∀ i j k,lt i j=true->lt j k=true->lt i k=true)
abbrev at0(p:Array Nat)(i:Nat):Nat:=p.getD i 0
structure PmN(N:Nat)(p:Array Nat):Prop where pm:p.toList.Perm (List.range N)
theorem PmN.size{p:Array Nat}(h:PmN N p):p.size=N:=by have:=h.pm.length_eq;simpa using this
theorem PmN.bd{p:Array Nat}(h:PmN N p){i:Nat}(hi:i<N):at0 p i<N:=by
 have hs:=h.size;have:at0 p i∈p.toList:=by
  rw [at0,Array.getD,dif_pos (by omega)];exact Array.getElem_mem_toList _
 exact _aB.mp (h.pm.mem_iff.mp this)
theorem PmN.ne {p:Array Nat} (h:PmN N p) {i j:Nat} (hi:i<N) (hj:j<N) (hij:i≠j):at0 p i≠at0 p j:=fun z=>by
 have hs:=h.size;have nd:p.toList.Nodup:=h.pm.nodup_iff.mpr List.nodup_range;rw [at0,at0,Array.getD,Array.getD,dif_pos (by omega),dif_pos (by omega)] at z;have:=(_br (i:=i) (j:=j) (h₀:=by simpa using (by omega:i<p.size)) (h₁:=by simpa using (by omega:j<p.size)) nd).mp (by simpa using z);exact hij this
def Asc(lt:Nat->Nat->Bool)(p:Array Nat)(k:Nat):Prop:=∀ i j,i<j->j<k->lt (at0 p i) (at0 p j)=true
include tr
theorem Asc.more{p:Array Nat}{k:Nat}(h:Asc lt p k)(h1:1<=k)(e:lt (at0 p (k-1)) (at0 p k)=true):Asc lt p (k+1):=fun i j hij hj=>by
 by_cases q:j=k
 ·subst q;by_cases q2:i=j-1;·subst q2;exact e
  ·exact tr _ _ _ (h i (j-1) (by omega) (by omega)) e
 ·exact h i j hij (by omega)
include tot
theorem zbm{p:Array Nat}(P:PmN N p):∀ (f n0:Nat),1<=n0->n0+f<=N->Asc lt p n0->∃ m,kev N lt (kas_asc p f n0)=some m/\n0<=m/\m<=n0+f/\Asc lt p m/\(m<n0+f->lt (at0 p m) (at0 p (m-1))=true)
 | 0,n0,h1,hN,ha=>⟨n0,rfl,_g _,_g _,ha,fun z=>absurd z (by omega)⟩ | f+1,n0,h1,hN,ha=>by
  have b1:=P.bd (i:=n0) (by omega);have b2:=P.bd (i:=n0-1) (by omega);by_cases c:lt (at0 p n0) (at0 p (n0-1))=true
  ·refine ⟨n0,?_,_g _,by omega,ha,fun _=>c⟩;show (if at0 p n0<N/\at0 p (n0-1)<N then kev N lt (if lt (at0 p n0) (at0 p (n0-1))=true then KasT.ret n0 else kas_asc p f (n0+1)) else none)=_;rw [_f ⟨b1,b2⟩,_f c];rfl
  ·have e:lt (at0 p (n0-1)) (at0 p n0)=true:=by
    rw [tot _ _ b1 b2 (P.ne (by omega) (by omega) (by omega))];simpa using c
   obtain ⟨m,e1,e2,e3,e4,e5⟩:=zbm P f (n0+1) (by omega) (by omega) (ha.more tr h1 e);refine ⟨m,?_,by omega,by omega,e4,fun z=>e5 (by omega)⟩;show (if at0 p n0<N/\at0 p (n0-1)<N then kev N lt (if lt (at0 p n0) (at0 p (n0-1))=true then KasT.ret n0 else kas_asc p f (n0+1)) else none)=_;rw [_f ⟨b1,b2⟩,_q c];exact e1
omit tot tr in
end
def zae(fin:Bool):List Int->List Int->Bool
 | x::a,y::b=>if x=y then zae fin a b else decide (x<y) | _,_=>fin
theorem zer:∀ ns ms:List Int,zae (decide (ns.length<ms.length)) ns ms=lexN ns ms
 | [],[]=>by simp [zae,lexN] | [],_::_=>by simp [zae,lexN] | _::_,[]=>by simp [zae,lexN] | x::a,y::b=>by
  have:=zer a b;simp only [zae,lexN,_i,Nat.add_lt_add_iff_right,this]
def TupAt(h:Heap)(v:Value)(ns:List Int):Prop:=∃ a o n us,v=.ref a/\h.get? a=some o/\o.cls=.type "tuple"/\o.data=.seq us n/\ug us.toList ns/\ns≠[]
inductive wq (h:Heap):List Value->List (List Int)->Prop | nil:wq h [] [] | cons {v p vs ps}:TupAt h v p->wq h vs ps->wq h (v::vs) (p::ps)
theorem wq.length{h:Heap}:∀ {vs ps},wq h vs ps->vs.length=ps.length
 | _,_,.nil=>rfl | _,_,.cons _ r=>by simp [r.length]
theorem wq.at_{h:Heap}:∀ {vs ps},wq h vs ps->∀ i,i<ps.length->TupAt h (vs.getD i .none) (ps.getD i [])
 | _,_,.nil,i,hi=>by simp at hi | _,_,.cons p r,0,_=>by simpa using p | _,_,.cons p r,i+1,hi=>by simpa using r.at_ i (by simpa using hi)
theorem wq.mono{h h':Heap}(k:∀ b o,h.get? b=some o->h'.get? b=some o):∀ {vs ps},wq h vs ps->wq h' vs ps
 | _,_,.nil=>.nil | _,_,.cons ⟨a,o,n,us,e,g,c,d,i,z⟩ r=>.cons ⟨a,o,n,us,e,k _ _ g,c,d,i,z⟩ (r.mono k)
theorem wq.tups{h:Heap}:∀ {vs ps},wq h vs ps->∃ fs,KatTups h vs fs/\fs.length=ps.length/\∀ v∈fs,∃ i t,v=.int i t
 | _,_,.nil=>⟨[],KatTups.nil,rfl,fun v hv=>by cases hv⟩ | _,_,.cons (p:=p) ⟨a,o,n,us,e,g,c,d,i,z⟩ r=>by
  obtain ⟨fs,k,l,m⟩:=r.tups;subst e;obtain ⟨ul⟩:=us;cases i with
  | nil=>exact absurd rfl z | @cons x t ws ns i'=>
   refine ⟨.int x t::fs,KatTups.cons g c d rfl k,by simp [l],fun v hv=>?_⟩;rcases _z.mp hv with rfl | hv;·exact ⟨_,_,rfl⟩
   ·exact m v hv
section
variable {prog:Program}{w:World}{A:Around}{E:Value->Shared->Prop}{s:Shared}
theorem z87 {fin:Bool} {C:Bool->Shared->Prop}:∀ {xs ys:List Value} {ns ms:List Int} (i:Nat),ug xs ns->ug ys ms->C (zae fin ns ms) s->KatLex prog w A true fin C (xs.zip ys) i s
 | _,_,_,_,i,.nil,_,h=>by
  simp only [List.zip_nil_left];refine kat_nil ?_;simpa [zae] using h | _,_,_,_,i,.cons _,.nil,h=>by
  simp only [List.zip_nil_right];refine kat_nil ?_;simpa [zae] using h | _,_,_,_,i,.cons (i:=x) (t:=t) r,.cons (i:=y) (t:=t') r',h=>by
  simp only [List.zip_cons_cons];refine kat_cons (_bX (kat_go (fun e=>kat_yes (z87 (i+1) r r' ?_)) fun e=>kat_no ?_))
  ·have e1:x=y:=by simpa using e
   simpa [zae,e1] using h
  ·have e1:¬ x=y:=by simpa using e
   have h':C (decide (x<y)) s:=by simpa [zae,e1] using h
   cases i with
   | zero=>
    have hb:(true&&((0:Nat)==0))=true:=rfl;rw [hb];exact oneLt_int h' | succ i=>
    have hb:(true&&((i+1:Nat)==0))=false:=by simp
    rw [hb];exact kat_one _ _ (PyProof.Rows.lt_int h')
theorem zfH{v u:Value}{p q:List Int}{C:Bool->Shared->Prop}(hv:TupAt s.heap v p)(hu:TupAt s.heap u q)(h:C (lexN p q) s):wpAny (model prog w) A (keyLt' (tuples' true) v u) C E s:=by
 obtain ⟨a,o,n,us,rfl,g,c,d,i,_⟩:=hv;obtain ⟨b,o',n',us',rfl,g',c',d',i',_⟩:=hu;refine kat_lt g d g' d' (z87 0 i i' ?_);have e:decide (us.size<us'.size)=decide (p.length<q.length):=by
  have:=i.length;have:=i'.length;simp only [_aR] at *;simp [*]
 rw [e,zer];exact h
theorem zaV{vs:List Value}{ps:List (List Int)}{Q:SortKind->Shared->Prop}(hp:wq s.heap vs ps)(h0:0<ps.length)(h:Q (tuples' true) s):wpAny (model prog w) A (keyKind' vs.toArray) Q E s:=by
 obtain ⟨fs,k,l,m⟩:=hp.tups;refine kat_kind (T:=.type "int") k (by rw [l];exact h0) (fun v hv=>?_) rfl h;obtain ⟨i,t,rfl⟩:=m v hv;exact Looks.of_pure rfl
theorem zgw{κ:SortKind}{it:Array Keyed}{n:Nat}{Q:Unit->SortSt->Shared->Prop}{G:Array Nat->Shared->Prop}(h2:2<=n) (hG:∀ p' st' s',p'.size=n->arrOf st'=p'.map (kas_item it)->failedOf st'=none->G p' s'->Q () st' s')(h:(kas_count n (List.toArray (List.range n))).kasWp (kas_cmp prog w A κ it) (fun r s'=>r.1=n/\G r.2 s') s): kasC (model prog w) A E sortRuns' Q (kas_st κ it (List.toArray (List.range n))) s:=by
 obtain ⟨r,rfl⟩:∃ r,n=r+2:=⟨n-2,by omega⟩;have hrs:(List.toArray (List.range (r+2))).size=r+2:=by simp
 rw [sortRuns'_eq];refine kasC_bind (kasC_get ?_);dsimp only;have hsz:(arrOf (kas_st κ it (List.toArray (List.range (r+2))))).size=r+2:=by
  show ((List.toArray (List.range (r+2))).map (kas_item it)).size=_;rw [Array.size_map,hrs]
 have hmr:∀ f m c,m+c<=r+2->1<=m->minRun' f m c<=r+2:=by
  intro f;induction f with
  | zero=>intro m c h _;exact h | succ f ih=>
   intro m c h h1;rw [minRun'_succ];split;·exact h
   ·exact ih _ _ (by omega) (by omega)
 have hmr:=hmr (r+2) (r+2) 0 (_g _) (by omega);simp only [hsz];generalize minRun' (r+2) (r+2) 0=mr at hmr;refine kasC_bind (kasC_range ?_);show kasC _ _ _ (forIn (0::1::List.range' 2 r) _ _) _ _ _;refine kasC_cons ?_;dsimp only;rw [_q (by omega)];simp only [Nat.sub_zero,_W];refine kasC_bind (kas_count_ (by omega) (by rw [hrs];exact _g _) (fun m p' s' hm1 hm2 hp hg=>?_) h);have hps:p'.size=r+2:=hp.trans hrs;obtain ⟨em,hg'⟩:=hg;have em':m=r+2:=em;subst em';dsimp only;rw [_q (by omega)];refine kasC_bind (kasC_get ?_);rw [show (pendingOf (kas_st κ it p')).back? = none from rfl];dsimp only;refine kasC_bind (kasC_modify (kasC_pure ?_));show kasC _ _ _ (forIn (1::List.range' 2 r) _ _) _ _ _;refine kasC_cons ?_;dsimp only;rw [_f (_g _)];refine kasC_pure ?_;dsimp only;refine kasC_bind (kasC_range ?_);show kasC _ _ _ (forIn (0::1::List.range' 2 r) _ _) _ _ _;refine kasC_cons ?_;refine kasC_bind (kasC_get ?_);rw [_f (show (pendingOf (setPending (kas_st κ it p') ((pendingOf (kas_st κ it p')).push (0,r+2,0)))).size<=1 from _g 1)];refine kasC_pure ?_;dsimp only;exact kasC_pure (hG p' _ _ hps rfl rfl hg')
def zi1(ps:List (List Int))(p:Array Nat):Prop:= (ps.length<2/\p=List.toArray (List.range ps.length))\/ (2<=ps.length/\ps.length<64/\kev ps.length (fun i j=>lexN (ps.getD i []) (ps.getD j [])) (kas_sort ps.length)=some p)\/ (2<=ps.length/\kev ps.length (fun i j=>lexN (ps.getD i []) (ps.getD j [])) (kas_count ps.length (List.toArray (List.range ps.length)))=some (ps.length,p))
theorem zcp {vs:List Value} {ps:List (List Int)} {p:Array Nat} {Q:SortSt->Shared->Prop} (hp:wq s.heap vs ps) (h2:2<=ps.length) (hP:zi1 ps p) (h:∀ st',p.size=vs.length->arrOf st'=p.map (kas_item (vs.toArray.zip vs.toArray))->failedOf st'=none->Q st' s): wpAny (model prog w) A ((sortRuns').run (SortSt.mk' (tuples' true) (vs.toArray.zip vs.toArray) #[] 7 none)) (fun r s'=>Q r.2 s') E s:=by
 have lenP:=hp.length;have cmp:∀ i j (C:Bool->Shared->Prop),i<ps.length->j<ps.length->C (lexN (ps.getD i []) (ps.getD j [])) s->kas_ask prog w A (tuples' true) vs i j C s:=fun i j C hi hj hC=>zfH (hp.at_ i hi) (hp.at_ j hj) hC;rcases hP with ⟨z,_⟩ | ⟨_,h64,e⟩ | ⟨_,e⟩;·omega
 ·refine kat_run (ks:=vs) (vs:=vs) (G:=fun q s'=>q=p/\s'=s) rfl (by omega) (by omega) (fun q st' s' a1 a2 a3 a4=>?_) (z8u (n:=ps.length) cmp _ p (by rw [lenP];exact e) ⟨rfl,rfl⟩);obtain ⟨rfl,rfl⟩:=a4;exact h st' a1 a2 a3
 ·have hc:(kas_count vs.length (List.toArray (List.range vs.length))).kasWp (kas_cmp prog w A (tuples' true) (vs.toArray.zip vs.toArray)) (fun r s'=>r.1=vs.length/\(r.2=p/\s'=s)) s:=by
   rw [<- kat_ask_eq (ks:=vs) (vs:=vs) rfl];refine z8u (n:=ps.length) cmp _ (ps.length,p) (by rw [lenP];exact e) ⟨lenP.symm,rfl,rfl⟩
  have run:=zgw (E:=E) (Q:=fun _ st' s'=>Q st' s') (G:=fun q s'=>q=p/\s'=s) (by omega) (fun q st' s' a1 a2 a3 a4=>by obtain ⟨rfl,rfl⟩:=a4;exact h st' a1 a2 a3) hc;have est:SortSt.mk' (tuples' true) (vs.toArray.zip vs.toArray) #[] 7 none=kas_st (tuples' true) (vs.toArray.zip vs.toArray) (List.toArray (List.range vs.length)):=by
   have e:=kas_range (vs.toArray.zip vs.toArray);rw [show (vs.toArray.zip vs.toArray).size=vs.length by simp] at e;show SortSt.mk' (tuples' true) (vs.toArray.zip vs.toArray) #[] 7 none=SortSt.mk' (tuples' true) ((List.toArray (List.range vs.length)).map (kas_item (vs.toArray.zip vs.toArray))) #[] 7 none;rw [e]
  rw [est];exact run
theorem z4I {a:Addr} {vs:List Value} {ps:List (List Int)} {n:Nat} {p:Array Nat} {P:PySem.Fin->Shared->Prop} (ho:s.heap.get? a=some (seqObj "list" vs.toArray n)) (hp:∀ h',(∀ b o,b≠a->s.heap.get? b=some o->h'.get? b=some o)->wq h' vs ps) (hline:vs.length<=sizeLine) (hP:zi1 ps p) (h:P (.done (.ret .none)) {s with heap:=sortedHeap s.heap a vs (z2R vs p)}):wpAny (model prog w) A (Builtin.«list.sort» ⟨[.ref a],[]⟩) P E s:=by
 have ha:a<s.heap.objs.size:=_l ho;have lenP:vs.length=ps.length:=(hp s.heap fun _ _ _ e=>e).length;obtain ⟨e1,g1⟩:∃ e1,(s.heap.update a (Obj.mapSeq fun _=>(#[]:Array Value))).get? a=some (seqObj "list" #[] e1):=⟨_,get?_update_seq ho fun _=>#[]⟩;have g2:(((s.heap.update a (Obj.mapSeq fun _=>(#[]:Array Value))).push (seqObj "tuple" vs.toArray 0)).push (seqObj "list" #[] 0)).get? a=some (seqObj "list" #[] e1):=_d _ (_d _ g1);have hp1:wq (((s.heap.update a (Obj.mapSeq fun _=>(#[]:Array Value))).push (seqObj "tuple" vs.toArray 0)).push (seqObj "list" #[] 0)) vs ps:=hp _ fun b o hb e=> _d _ (_d _ (((_ap s.heap a (Obj.mapSeq fun _=>(#[]:Array Value))).2 b hb).trans e));rw [list_sort_plain];refine _a (listItems_at ho rfl (_a (_b7 ho rfl (_a (_cR g1 rfl (_a (_cw (_a (_c2 (_au ?_) (_ae _))) hline)))) (by rw [_j];exact hline) (_ae _))));dsimp only;by_cases big:vs.toArray.size<2
 ·rw [_f big,_f big];have small:vs.length<2:=by simpa using big
  have ep:p=List.toArray (List.range ps.length):=by
   rcases hP with ⟨_,z⟩ | ⟨z,_⟩ | ⟨z,_⟩;·exact z
   ·omega
   ·omega
  have eo:z2R vs p=vs.toArray:=by
   rw [ep,<- lenP];unfold z2R;congr 1;apply _aI;·simp
   ·intro i h1 h2;simp [h2]
  refine _a (_c (_a (_c ?_)));dsimp only;have out:(arrOf (SortSt.mk' general' (vs.toArray.zip vs.toArray) #[] 7 none)).map (·.2)=vs.toArray:=by
   show ((vs.toArray.zip vs.toArray).map (·.2))=_;apply Array.ext_getElem?;intro i;by_cases hi:i<vs.length<;>simp [hi]
  rw [out];refine _a (_cR g2 rfl (_a (_b7 g2 rfl ?_ (_ae _) (by rw [_j];exact _cS hline))));simp only [_cT,_az,_ak];rw [eo] at h;exact _c h
 ·rw [_q big,_q big];have b2:2<=ps.length:=by rw [<- lenP];simpa using big
  refine _a (zaV (s:={s with heap:=((s.heap.update a (Obj.mapSeq fun _=>(#[]:Array Value))).push (seqObj "tuple" vs.toArray 0)).push (seqObj "list" #[] 0)}) hp1 (by omega) ?_);refine _a (_t (zcp (s:={s with heap:=((s.heap.update a (Obj.mapSeq fun _=>(#[]:Array Value))).push (seqObj "tuple" vs.toArray 0)).push (seqObj "list" #[] 0)}) (p:=p) (Q:=fun st' s'=>p.size=vs.length/\arrOf st'=p.map (kas_item (vs.toArray.zip vs.toArray))/\failedOf st'=none/\s'={s with heap:=((s.heap.update a (Obj.mapSeq fun _=>(#[]:Array Value))).push (seqObj "tuple" vs.toArray 0)).push (seqObj "list" #[] 0)}) hp1 b2 hP fun st' a1 a2 a3=>⟨a1,a2,a3,rfl⟩) ?_ fun _ _ z=>z);rintro ⟨⟨⟩,st'⟩ s' ⟨hq,har,hf,rfl⟩;dsimp only;have out:=kat_snds (ks:=vs) (vs:=vs) rfl har;rw [out,hf];refine _a (_cR g2 rfl (_a (_b7 g2 rfl ?_ (_ae _) (by rw [_j,_B,_aR,hq];exact _cS hline))));simp only [_cT,_az,_ak];exact _c h
theorem z96 {l:Addr} {vs:List Value} {ps:List (List Int)} {p:Array Nat} {Q:Value->Shared->Prop} (hl:s.heap.IsList l vs.toArray) (hp:wq s.heap vs ps) (hline:vs.length<=sizeLine) (hP:zi1 ps p) (h:Q (.ref (s.heap.objs.size+1)) {s with heap:=sortedAll s.heap vs (z2R vs p)}): wpAny (model prog w) A (call (.builtin "sorted") [.ref l]) Q E s:=by
 refine Calls.call_function_entry kind_sorted plain_sorted entry_sorted (args_sorted1 _) ?_;unfold Builtin.«sorted»;refine _a (m:=checkCount "sorted" 1 1 _) (_c (_a (collect_list hl (_a (_c2 ?_ (by simpa using hline))) (by simpa using hline))));have sz:((s.heap.push (seqObj "list" #[] 0)).update s.heap.objs.size (Obj.mapSeq (· ++ vs.toArray))).objs.size=s.heap.objs.size+1:=by rw [Heap.size_update,size_push']
 have g:(((s.heap.push (seqObj "list" #[] 0)).update s.heap.objs.size (Obj.mapSeq (· ++ vs.toArray))).push (seqObj "list" vs.toArray 0)).get? (s.heap.objs.size+1)=some (seqObj "list" vs.toArray 0):=by
  rw [<- sz];exact _h _ rfl
 have keep:∀ b o,s.heap.get? b=some o->(((s.heap.push (seqObj "list" #[] 0)).update s.heap.objs.size (Obj.mapSeq (· ++ vs.toArray))).push (seqObj "list" vs.toArray 0)).get? b=some o/\b≠s.heap.objs.size+1:=fun b o q=>by
  have lt:b<s.heap.objs.size:=_l q;refine ⟨?_,_x (_aj lt)⟩;rw [_bP _ _ _ (by rw [sz];exact _x (_aj lt)),Heap.get?_update_ne _ _ _ _ (_x lt),_bP _ _ _ (_x lt)];exact q
 show wpAny (model prog w) _ _ _ _ {s with heap:=((s.heap.push (seqObj "list" #[] 0)).update s.heap.objs.size (Obj.mapSeq (· ++ vs.toArray))).push (seqObj "list" vs.toArray 0)};rw [sz];exact _a (_au (_I slot_list_sort ⟨_,g,rfl⟩ entry_list_sort (z4I g (fun h' k=>hp.mono fun b o q=>k b o (keep b o q).2 (keep b o q).1) hline hP ⟨_,rfl,_c ⟨_,rfl,h⟩⟩) (args_list_sort _)))
end
section
variable {X:Cx}{E:XK}
def zh5(K:W.Frag):List V->Hp->VK->Prop:=fun xs H Q=>∃ (l:Addr)(ys:List V)(ps:List (List Int))(p:Array Nat),xs=[.ref l]/\SqL K H l ys/\Paired (fun v ns=>AtN H v ns) ys ps/\(∀ n∈ps,n≠[])/\zi1 ps p/\ (∀ i∈p.toList,i<ys.length)/\p.toList.length=ys.length/\∀ r,H r=none->Q (.ref r) (upd H r (.lst (p.toList.map fun i=>ys.getD i .non)))
theorem zbo{pins:List (Addr×Obj)}{O:L2.St}{H:Hp}{s:Shared}(I:Inv X pins O H s):∀ {ys:List V}{its:List Value}{ps:List (List Int)},ym ys its->Paired (fun v ns=>AtN H v ns) ys ps->(∀ n∈ps,n≠[])->wq s.heap its ps
 | [],_,_,.nil,.nil,_=>.nil | y::ys,_,_,.cons r rs,.cons a p,hn=>by
  refine .cons ?_ (zbo I rs p fun n hm=>hn n (.tail _ hm));obtain ⟨b,its,rfl,rfl,⟨o,g,c,k,d⟩,z⟩:=a.tuple I r;exact ⟨b,o,k,its,rfl,g,c,d,z,hn _ (.head _)⟩
theorem z8O:xK X (.builtin "sorted") (zh5 X.K):=by
 intro pins s O H xs us Q I r h;obtain ⟨l,ys,ps,p,rfl,hq,hp,hn,hP,hin,hpl,q⟩:=h;obtain ⟨u,rfl,rx⟩:=vals1 r;cases rx;obtain ⟨its,r',pl,hz⟩:=I.list hq;have hlen:=r'.length;refine z96 (ps:=ps) (p:=p) pl.isList (zbo I r' hp hn) (by omega) hP ?_;obtain ⟨c',e⟩:=sortedAll_at s.heap its (z2R its p);refine ⟨.ref (s.heap.objs.size+1),_,I.laid (t':=s.toks) (fun b o z=>sortedAll_old z) (_cQ _) (show yj X.prog X.w _ (sortedAll s.heap its (z2R its p)) _ (.lst (p.toList.map fun i=>ys.getD i .non)) from ⟨?_,_,c',z3O r' p.toList hin,e⟩),rfl,q _ (I.hok.fresh (_cQ _))⟩;rw [_B,hpl];exact hz
end
end Dd
namespace Dd
open L2
def zc3:List D->Option (List (List Key×V))
 | .non::ys=>z7z ys | xs=>z7z xs
theorem z3R{kvs:List (List Key×V)}(h:zbJ kvs):zc3 (encD kvs)=some kvs:=by
 have:=dec_enc h;cases kvs with
 | nil=>exact this | cons p r=>exact this
theorem Rep.dicF{mg:Gm}{H:Hp}{Y:List Addr}{s:Sto}(r:Rep mg H Y s){l:Nat}{xs:List D}{a:Addr}{kvs:List (List Key×V)}(h:s[l]? = some xs)(ha:Y[l]? = some a)(k:IsC H a)(hd:zc3 xs=some kvs):zbJ kvs/\((H a=some (.dT kvs)/\xs=encD kvs)\/∃ o,H a=some (.frz o (.dT kvs))/\xs=.non::encD kvs):=by
 rcases r.dic h ha k with ⟨kvs',q1,q2⟩ | ⟨o,kvs',ys,q1,rfl,q2⟩
 ·obtain ⟨z1,z2,z3⟩:=z2l q2;rw [z1,z3R z2] at hd;cases hd;exact ⟨z2,.inl ⟨q1,z1⟩⟩
 ·obtain ⟨z1,z2,z3⟩:=z2l q2;have hd:z7z ys=some kvs:=hd;rw [z3] at hd;cases hd;exact ⟨z2,.inr ⟨o,q1,by rw [z1]⟩⟩
def qF(s:Sto)(o k:D):Option (Option V):=match o,k with
 | .dlo l,.tup ks=>match (s[l]?).bind zc3,kT ks with
  | some kvs,some key=>some (va kvs key) | _,_=>none
 | _,_=>none
theorem zdI{kvs:List (List Key×V)}(h:zbJ kvs){k:List Key}{v:V}(e:va kvs k=some v):(z9l v).isSome=true:=by
 unfold va at e;obtain ⟨p,hp,rfl⟩:=_v.mp e;exact h p (List.mem_of_find?_eq_some hp)
theorem ze5{mg:Gm}{H:Hp}{Y:List Addr}{v:V}(h:(z9l v).isSome=true):Den mg H Y (vD v) v:=by cases v with
 | int i=>simp [vD,Den] | bl b=>simp [vD,Den] | _=>simp [z9l] at h
section
variable {X:Cx}{E:XK}{a b e f o i:Expr}{pos apos:Pos}
theorem z6O{H:Hp}{Y:List Addr}{s:Sto}{od kd:D}{x y:V}{ov:Option V}(r:Rep (gm X) H Y s)(h1:Den (gm X) H Y od x)(h2:Den (gm X) H Y kd y)(h:qF s od kd=some ov):∃ p,x=.ref p/\zcu H p y ov/\(∀ v,ov=some v->(z9l v).isSome=true):=by
 unfold qF at h;split at h
 ·rename_i l ks;split at h
  ·rename_i kvs key ek edk;cases h;simp only [Den] at h1;obtain ⟨p,rfl,e1,ka⟩:=h1;obtain ⟨xs,ex,edc⟩:=_ac.mp ek;obtain ⟨z2,q⟩:=r.dicF ex e1 ka edc;have rd:Rd H p (.dT kvs):=q.imp (fun q=>q.1) fun ⟨o,q,_⟩=>⟨o,q⟩;rw [z4a edk] at h2;simp only [Den] at h2;obtain ⟨c,vs,rfl,hb,hd⟩:=h2;rw [z1v hd] at hb;exact ⟨p,rfl,.inr ⟨kvs,key,c,rd,rfl,hb,rfl⟩,fun v e=>zdI z2 e⟩
  ·cases h
 ·cases h
def zgJ(neg:Bool)(k o:D)(s:Sto):R D:=match qF s o k with
 | some ov=>.ok (.bl (if neg then !ov.isSome else ov.isSome)) s | none=>.no
def zjV(neg:Bool):R2:=fun y x H Q=>∃ p ov,x=.ref p/\zcu H p y ov/\Q (.bl (if neg then !ov.isSome else ov.isSome)) H
theorem zkV(hu:X.A.units+64<cLine):OpR X (compareOp .In) (zjV false):=by
 intro pins s O H x y v u Q I rx ry h;obtain ⟨p,ov,rfl,g,q⟩:=h;cases ry;exact zlZ (A:=X.A) (by omega) I g rx fun s' I'=>⟨.bl ov.isSome,H,I',rfl,q⟩
theorem zbL(hu:X.A.units+64<cLine):OpR X (compareOp .NotIn) (zjV true):=by
 intro pins s O H x y v u Q I rx ry h;obtain ⟨p,ov,rfl,g,q⟩:=h;cases ry;exact zgi (A:=X.A) (by omega) I g rx fun s' I'=>⟨.bl (!ov.isSome),H,I',rfl,q⟩
theorem zeN{neg:Bool}:OpF X E (zjV neg) (zgJ neg):=fun H Y s d1 d2 v1 v2 Q r h1 h2 h=>by
 unfold zgJ at h;split at h
 ·rename_i ov e1;obtain ⟨p,rfl,g,_⟩:=z6O r h2 h1 e1;exact ⟨p,ov,rfl,g,h.here r yX⟩
 ·exact h.elim
theorem zcU(hu:X.A.units+64<cLine):∃ r,OpR X (compareOp .NotIn) r/\OpF X E r (zgJ true):=⟨_,zbL hu,zeN⟩
def z9u(fo fk:FE):FE:=fun Z s=>(fo Z s).bind fun o s1=>(fk Z s1).bind fun k s2=>match qF s2 o k with
 | some (some v)=>.ok (vD v) s2 | _=>.no
theorem zi4{fo fk:FE}(hu:X.A.units+64<cLine)(ho:RE X E o fo)(hi:RE X E i fk)(hs:zkd i:=by intro _ _;rfl):RE X E (.Subscript o i pos) (z9u fo fk):= zE (zeI (by omega) ho hi hs) fun O H Q ⟨Y,Z,s,r,en,h⟩=>by
  unfold z9u at h;refine zB (k:=fun Z o s1=>(fk Z s1).bind fun k s2=>match qF s2 o k with | some (some v)=>.ok (vD v) s2 | _=>.no) r en h _ fun v H1 Y1 s1 d r1 en1 dn stp h1=>?_;refine zB (k:=fun Z k s2=>match qF s2 d k with | some (some v)=>.ok (vD v) s2 | _=>.no) r1 en1 h1 _ fun v2 H2 Y2 s2 kd r2 en2 dn2 stp2 h2=>?_;split at h2
  ·rename_i u eu;obtain ⟨p,rfl,g,al⟩:=z6O r2 (dn.mono stp2) dn2 eu;exact ⟨p,u,rfl,g,h2.here r2 (ze5 (al u rfl))⟩
  ·exact h2.elim
def z81(fo fk fx:FE):FE:=fun Z s=>(fo Z s).bind fun o s1=>match o with
 | .dlo l=>(fk Z s1).bind fun k s2=>(fx Z s2).bind fun x s3=>match qF s3 (.dlo l) k with
  | some ov=>.ok (match ov with | some v=>vD v | none=>x) s3 | none=>.no
 | _=>.no
theorem zff{fo fk fx:FE}(hu:X.A.units+64<cLine)(ho:RE X E o fo)(he:RE X E e fk)(hf:RE X E f fx)(hbase:attributeBase o "get" X.env (eval o X.env)=eval o X.env:=by rfl) (hfew:((backTo pos (starEach [e,f] X.env)).all (fun x=>!x.1)&&(backToKw pos (keywordEach [] X.env)).all (fun x=>x.1.isSome) && decide (([e,f]:List Expr).length+([]:List Keyword).length+(if ([]:List Keyword).isEmpty then 0 else 1)<30))=true:=by rfl) (hline:(apos.endLine==pos.line)=true:=by rfl)(htr:backTo pos (starEach [e,f] X.env)=[(false,eval e X.env),(false,eval f X.env)]:=by rfl): RE X E (.Call (.Attribute o "get" apos) [e,f] [] pos) (z81 fo fk fx):= zE (zcz (by omega) ho he hf ⟨hbase,hfew,hline,htr⟩) fun O H Q ⟨Y,Z,s,r,en,h⟩=>by
  unfold z81 at h;refine zB (k:=fun Z o s1=>match o with
   | .dlo l=>(fk Z s1).bind fun k s2=>(fx Z s2).bind fun x s3=>match qF s3 (.dlo l) k with
    | some ov=>.ok (match ov with | some v=>vD v | none=>x) s3 | none=>.no
   | _=>.no) r en h _ fun v H1 Y1 s1 d r1 en1 dn stp h1=>?_;split at h1
  ·rename_i l;have dl:=dn;simp only [Den] at dl;obtain ⟨p,rfl,e1,ka⟩:=dl;have isd:IsD H1 p:=by rcases ka with ⟨kvs,q⟩ | ⟨o,kvs,q⟩;exact .inr ⟨kvs,.inl q⟩;exact .inr ⟨kvs,.inr ⟨o,q⟩⟩
   refine ⟨p,rfl,isd,?_⟩;refine zB (k:=fun Z k s2=>(fx Z s2).bind fun x s3=>match qF s3 (.dlo l) k with
    | some ov=>.ok (match ov with | some v=>vD v | none=>x) s3 | none=>.no) r1 en1 h1 _ fun v2 H2 Y2 s2 kd r2 en2 dn2 stp2 h2=>?_;refine zB (k:=fun Z x s3=>match qF s3 (.dlo l) kd with
    | some ov=>.ok (match ov with | some v=>vD v | none=>x) s3 | none=>.no) r2 en2 h2 _ fun v3 H3 Y3 s3 xd r3 en3 dn3 stp3 h3=>?_;split at h3
   ·rename_i ov eu;obtain ⟨p',e',g,al⟩:=z6O r3 ((dn.mono stp2).mono stp3) (dn2.mono stp3) eu;cases e';refine ⟨ov,g,?_⟩;cases ov with
    | none=>exact h3.here r3 dn3 | some u=>exact h3.here r3 (ze5 (al u rfl))
   ·exact h3.elim
  ·exact h1.elim
end
@[simp] theorem zfM (fo fk:FE)(Z:Ev)(s:Sto):z9u fo fk Z s=(fo Z s).bind fun o s1=>(fk Z s1).bind fun k s2=>match qF s2 o k with
 | some (some v)=>.ok (vD v) s2 | _=>.no:=id rfl
@[simp] theorem zcC (fo fk fx:FE)(Z:Ev)(s:Sto):z81 fo fk fx Z s=(fo Z s).bind fun o s1=>match o with
 | .dlo l=>(fk Z s1).bind fun k s2=>(fx Z s2).bind fun x s3=>match qF s3 (.dlo l) k with
  | some ov=>.ok (match ov with | some v=>vD v | none=>x) s3 | none=>.no
 | _=>.no:=id rfl
end Dd
namespace L2
open Dd
def Itd(a:Addr)(o:Obj)(kvs:List (List Key×V)):It:= ⟨fun i H=>H a=some (.frz o (.dT kvs))/\i<kvs.length,fun i H x H'=>H'=H/\∃ p b,kvs[i]? = some p/\x=.ref b/\H b=some (.tup (p.1.map kV)),fun i H=>H a=some (.frz o (.dT kvs))/\kvs.length<=i⟩
theorem zcx{P:Program}{w:World}{K:W.Frag}{tg:Expr}(a it:Addr){o:Obj}{es:Array DictEntry}{ep:Nat}(ho:o.data=.dict es ep)(kvs:List (List Key×V)):zcI P w K tg (Itd a o kvs) [it] it (fun i h=>h.IsKeyIter it a i es.size ep) where
 mem:=by simp
 obj:=fun i h st b hb=>by
  have e:b=it:=by simpa using hb
  subst e;obtain ⟨o,e,c,d⟩:=st;exact ⟨o,e,fun v z=>by rw [d] at z;cases z⟩
 keep:=fun i h h' st k=>st.at fun o e=>k it (by simp) o e;item:=by
  intro X hP hw hK hc i pins s O H E I hf st hg;subst hP hw hK;obtain ⟨ha,hi⟩:=hg;obtain ⟨h0,z,lo,xs,rel,o',es',ep',h1,h2,h3,h4,h5⟩:=(show yj X.prog X.w H s.heap a (.frz o (.dT kvs)) from I.hok a _ ha);rw [h0] at h1;cases h1;rw [ho] at h3;cases h3;obtain ⟨p,hp⟩:∃ p,kvs[i]? = some p:=⟨kvs[i],_e hi⟩;obtain ⟨x,hx,r1,r2,r3⟩:=Dd.z0d rel i p hp;obtain ⟨f0,f1,f2,f3,f4,f5⟩:=hf it (by simp);have he:es[i]? = some (entryOfKey (tupleKind (zG X.prog X.w)) x):=by rw [entry_at h4,hx];rfl
  refine zcc st h0 ho he fun h' st' sb=>?_;have I1:Inv X pins O H {s with heap:=h'}:=I.turned (t':=s.toks) (fun b o hb e=>(sb.2 b hb).trans e) f0 f1 f3 f4 f5;obtain ⟨o2,e,c,d⟩:=id st';exact ⟨_,rfl,zcl (s:={s with heap:=h'}) e c d (by decide) ⟨.ref x.2.1,H,I1,rfl,⟨rfl,p,x.2.1,hp,rfl,r2⟩,st',fun b hb=>(hf b hb).1⟩⟩
 done:=by
  intro X hP hw hK hc i pins s O H E I hf st hg;subst hP hw hK;obtain ⟨ha,hi⟩:=hg;obtain ⟨h0,z,lo,xs,rel,o',es',ep',h1,h2,h3,h4,h5⟩:=(show yj X.prog X.w H s.heap a (.frz o (.dT kvs)) from I.hok a _ ha);rw [h0] at h1;cases h1;rw [ho] at h3;cases h3;have hl:xs.length=kvs.length:=(_b6 rel).symm;have hsz:es.size=xs.length:=size_of_entries h4;obtain ⟨f0,f1,f2,f3,f4,f5⟩:=hf it (by simp);exact zeR (I.ok.hd hc) st h0 ho (by simp;omega) fun h' eb=>⟨rfl,I.turned (t':=s.toks) (fun b o hb e=>eb b o hb e) f0 f1 f3 f4 f5⟩
 self:=fun _ _ _ _ _ st hQ=>wpAny_pyIter_keyiter st hQ
theorem zi6{X:Cx}{tg l:Expr}{tl:TE}(hl:PE X l tl):PI X tg l (fun O H R=>tl O H fun x H1=>∃ a kvs,x=.ref a/\((H1 a=some (.dT kvs)/\∀ o,R (Itd a o kvs) (upd H1 a (.frz o (.dT kvs))))\/∃ o,H1 a=some (.frz o (.dT kvs))/\R (Itd a o kvs) H1)):=by
 intro pins s O H R I h;refine thn (hl pins s O H _ I h) fun v s1 ⟨x,H1,I1,r1,q1⟩=>?_;obtain ⟨a,kvs,e,q⟩:=q1;subst e;cases r1;have fin:∀ (o:Obj)(H2:Hp),Inv X pins O H2 s1->H2 a=some (.frz o (.dT kvs))->R (Itd a o kvs) H2->wpAny (model X.prog X.w) X.A (pyIter (.ref a)) (PIE X pins O tg R) X.xe s1:=fun o H2 I2 ha q=>by
  obtain ⟨h0,z,lo,xs,rel,o',es,ep,h1,h2,h3,h4,h5⟩:=(show yj X.prog X.w H2 s1.heap a (.frz o (.dT kvs)) from I2.hok a _ ha);rw [h0] at h1;cases h1;refine zdl lo ⟨o,h0,h2,h3⟩ ?_;refine ⟨s1.heap.objs.size,[s1.heap.objs.size],_,_,H2,rfl,I2.kept (t':=s1.toks) fun b o e=>_d _ e,zcx a _ h3 kvs,⟨_,_h _ rfl,rfl,rfl⟩,fun b hb=>?_,q⟩;have e:b=s1.heap.objs.size:=by simpa using hb
  subst e;exact I2.fpOk (_g _) (I2.hok.fresh (_g _))
 rcases q with ⟨ha,q⟩ | ⟨o,ha,q⟩
 ·obtain ⟨_,_,xs,_,o,es,ep,h1,_⟩:=(show yj X.prog X.w H1 s1.heap a (.dT kvs) from I1.hok a _ ha);exact fin o _ (I1.freeze ha h1 (by intro _ z;cases z) (by intro _ _ z;cases z) (by intro _ z;cases z) (by intro _ z;cases z)) zC (q o)
 ·exact fin o H1 I1 ha q
end L2
namespace Dd
open L2
section
variable {X:Cx}{E:XK}{e tg:Expr}
def z7G(f:FE):FI:=fun Z s=>(f Z s).bind fun d s1=>match d with
 | .dlo l=>match (s1[l]?).bind zc3 with
  | some kvs=>.ok (z3L kvs,[]) (s1.set l (.non::encD kvs)) | none=>.no
 | _=>.no
theorem zf9{mg:Gm}{H:Hp}{Y:List Addr}{p:List Key×V}{b:Addr}(h:H b=some (.tup (p.1.map kV))):Den mg H Y (.tup (p.1.map z6n)) (.ref b):=by
 simp only [Den];exact ⟨b,_,rfl,h,z4K _⟩
theorem zjD {f:FE} (h:RE X E e f):RI X E tg e (z7G f):=z3f (zi6 h) fun O H Q ⟨Y,Z,s,r,en,h⟩=>by
 unfold z7G at h;refine ⟨Y,Z,s,r,en,(okR.bind (Dn:=Den (gm X)) h).imp fun v H1 ⟨Y1,s1,d,stp,dn,h1⟩=>?_⟩;split at h1
 ·rename_i l;split at h1
  ·rename_i kvs ek;obtain ⟨xs,ex,edc⟩:=_ac.mp ek;simp only [Den] at dn;obtain ⟨a,rfl,e1,ka⟩:=dn;obtain ⟨al,q⟩:=stp.rep.dicF ex e1 ka edc;have fl:D.flat.flats (D.non::encD kvs)=true:=z3U kvs;have ok:∀ (o:Obj) (H2:Hp) (Y2:List Addr),H2 a=some (.frz o (.dT kvs))->zc5 (gm X) H2 Y2 (z3L kvs,[]) (Itd a o kvs):=fun o H2 Y2 ha H3 Y3 s3 stp3 _ i=>by
    have ha3:=stp3.stay ha (by intro _ z;cases z);refine ⟨fun d hd=>?_,fun hl=>⟨ha3,by simpa [z3L] using hl⟩⟩;have hi:i<kvs.length:=by have:=(_b.mp hd).1;simpa [z3L] using this
    refine ⟨⟨ha3,hi⟩,fun x H' ⟨e3,p,b,hp,ex,hb⟩=>?_⟩;subst e3 ex;have:d=.tup (p.1.map z6n):=by
     have hd:(z3L kvs)[i]? = some d:=hd;rw [z3L,_P,hp] at hd;exact (_K hd).symm
    subst this;exact ⟨Y3,.refl stp3.rep,zf9 hb⟩
   refine ⟨a,kvs,rfl,?_⟩;rcases q with ⟨ha,hx⟩ | ⟨o,ha,hx⟩
   ·refine .inl ⟨ha,fun o=>?_⟩;have stp2:=xr.putC (l:=l) (o:=.frz o (.dT kvs)) stp.rep e1 (.putC ⟨_,ha⟩ (.inr ⟨o,kvs,rfl⟩)) (.inr (.inr ⟨o,kvs,encD kvs,zC,rfl,z43 al⟩)) fl;exact h1 _ _ _ stp2 (ok o _ _ zC)
   ·refine .inr ⟨o,ha,?_⟩;have e2:s1.set l (.non::encD kvs)=s1:=by
     rw [<- hx];exact List.ext_getElem? fun j=>by
      by_cases z:l=j;·subst z;rw [_O (_b.mp ex).1,ex]
      ·rw [_C z]
    rw [e2] at h1;exact h1 _ _ _ (.refl stp.rep) (ok o _ _ ha)
  ·exact h1.elim
 ·exact h1.elim
end
@[simp] theorem zfl (f:FE)(Z:Ev)(s:Sto):z7G f Z s=(f Z s).bind fun d s1=>match d with
 | .dlo l=>match (s1[l]?).bind zc3 with
  | some kvs=>.ok (z3L kvs,[]) (s1.set l (.non::encD kvs)) | none=>.no
 | _=>.no:=id rfl
end Dd
namespace Pg
open L2 Dd
def qd:List (Str×Str):=[("next","by_next"),("least","by_least"),("all","by_all"),("turn","by_turn")]
@[simp] def z6h:FS:=(wZ (zc4 (eIs "int" (zc 0)) (zjj (eIs "bool" (zc 0)))))
def jP:FS:=z6h
def zV:Mir:=Mof ["thing"] 1 jP
@[simp] def z6w:FS:=(wZ (zc4 (eIs "tuple" (zc 0)) (kS dLe dLe (eC (.int 2)) (zg ue (za (zc 0) zi)) (eC (.int 4)))))
def z20:FS:=z6w
def vm:Mir:=Mof ["thing"] 1 z20
@[simp] def yY:FS:=(yt 3 (jn (za (qq zi) zi)))
@[simp] def yZ:FS:=(yt 3 (z6s (xb (zc 3)) [some 1,some 2,none,none] 2 3 (zaf (za (zc 0) (za (eOp qr (zc 1) (eC (.int 1))) zi))) (eOp qr (zc 2) (qq (za (zc 3) zi)))))
@[simp] def yW:FS:=(z73 (z0x (za (zc 0) zi)) (wo 4) yZ)
@[simp] def kA:FS:=(wZ (zc 3))
def ui:FS:=(zn yY (zn yW kA))
def zX:Mir:=Mof ["size","least","most","found","place"] 3 ui
@[simp] def z2S:FS:=(wZ (eC (.bl false)))
@[simp] def z30:FS:=(fIf (fOr (z1c (tOf (eIs "tuple" (zc 0)))) (tOf (eOp dNe (zg ue (za (zc 0) zi)) (zc 1)))) z2S xp)
@[simp] def z3a:FS:=(wZ (zg zcM (za (zD (xb (zc 0)) [none] (wo 0) qj (zg zV (za (zc 0) zi))) zi)))
def kn:FS:=(zn z30 z3a)
def xO:Mir:=Mof ["thing","many"] 2 kn
@[simp] def z2d:FS:=fNo
@[simp] def qD:FS:=(fIf (fOr (z1c (tOf (zg zV (za (zc 0) zi)))) (z1c (tOf (kS dLe dLe (zc 1) (zc 0) (zc 2))))) z2d xp)
def jE:FS:=qD
def wc:Mir:=Mof ["thing","least","most"] 3 jE
@[simp] def z1b:FS:=(fIf (fOr (z1c (tOf (zg zV (za (zc 0) zi)))) (z1c (tOf (kS dLe dLe (zc 1) (zc 0) (zc 2))))) (z5Y "NoNumber") xp)
def wf:FS:=z1b
def zM:Mir:=z3E ["thing","least","most"] 3 wf
@[simp] def z48:FS:=fNo
@[simp] def z4V:FS:=(fIf (fOr (z1c (tOf (zg zV (za (zc 0) zi)))) (z1c (tOf (kS dLe dLe (eC (.int 2)) (zc 0) (zc 1))))) z48 xp)
def z0M:FS:=z4V
def vp:Mir:=Mof ["thing","most"] 2 z0M
@[simp] def z34:FS:=(fIf (fOr (z1c (tOf (zg zV (za (zc 0) zi)))) (z1c (tOf (kS dLe dLe (eC (.int 2)) (zc 0) (zc 1))))) (z5Y "NoSize") xp)
def vd:FS:=z34
def zY:Mir:=z3E ["thing","most"] 2 vd
@[simp] def z9r:FS:=(wZ (eC (.bl false)))
@[simp] def z9q:FS:=(fIf (fOr (z1c (tOf (zg vm (za (zc 0) zi)))) (z1c (tOf (zg xO (za (zc 0) (za (zg ue (za (zc 0) zi)) zi)))))) z9r xp)
@[simp] def z8W:FS:=(wZ (zc4 (eOp dGe (zg z3X (za (zc 0) zi)) (eC (.int 0))) (eOp dGt (zg vE (za (zc 0) zi)) (eC (.int 0)))))
def z5j:FS:=(zn z9q z8W)
def uP:Mir:=Mof ["thing"] 1 z5j
@[simp] def z59:FS:=fNo
@[simp] def z5T:FS:=(fIf (z1c (tOf (zg uP (za (zc 0) zi)))) z59 xp)
def z2k:FS:=z5T
def yJ:Mir:=Mof ["thing"] 1 z2k
@[simp] def z4H:FS:=(wS (zg yJ (za (zc 0) zi)))
@[simp] def kF:FS:=(wZ (eOp dEq (zg ue (za (zD (xb (zc 0)) [none] (wo 0) (tOf (eOp dNe (zc 0) (eC (.int 0)))) (zc 0)) zi)) (eC (.int 1))))
def z0A:FS:=(zn z4H kF)
def yq:Mir:=Mof ["lot"] 1 z0A
@[simp] def xX:FS:=(yt 1 (zdw (zc 0) (zg vE (za (zc 0) zi))))
@[simp] def xZ:FS:=(wZ (qq (za (zc 1) (za (eOp qr (eOp qr (eSl (zc 0) yV (qe (zc 1))) (qq (za (eC (.int 0)) zi))) (eSl (zc 0) (qe (eOp qr (zc 1) (eC (.int 1)))) yV)) zi))))
def wu:FS:=(zn xX xZ)
def zp:Mir:=Mof ["lot","at"] 1 wu
@[simp] def qL:FS:=(wZ (zdw (zc 0) (zg z3X (za (zD (xb (zc 0)) [none] (wo 0) (tOf (eOp dNe (zc 0) (eC (.int 0)))) (zc 0)) zi))))
def js:FS:=qL
def zR:Mir:=Mof ["lot"] 1 js
@[simp] def z1Z:FS:=(wZ (zD (z0x (za (zg ue (za (zc 0) zi)) zi)) [some 1,none] (wo 1) (tOf (eOp dNe (zc 1) (zc 0))) (zc 1)))
def z3g:FS:=z1Z
def xC:Mir:=Mof ["lot","place"] 2 z3g
@[simp] def z7p:FS:=(wZ (zc4 (eIs "str" (zc 0)) (z8p qd false (zc 0))))
def z3i:FS:=z7p
def xu:Mir:=Mof ["thing"] 1 z3i
@[simp] def z5F:FS:=(wZ (eIf (tOf (eOp dEq (zc 0) (eC (.str "turn")))) (eOp qr (eSl (zc 1) (qe (eC (.int 1))) yV) (eSl (zc 1) yV (qe (eC (.int 1))))) (zc 1)))
def z8D:FS:=z5F
def jL:Mir:=Mof ["rule","numbers"] 2 z8D
@[simp] def z7B:FS:=(zeF (zg zp (za (zc 0) zi)) (xW 1 2))
@[simp] def z2q:FS:=(wZ (qq (za (zdw (zc 2) (zg vE (za (zc 2) zi))) (za (jn (za (zc 1) zi)) zi))))
def z3m:FS:=(zn z7B z2q)
def wO:Mir:=Mof ["lot","greatest","others"] 1 z3m
@[simp] def z5f:FS:=(zeF (zg zp (za (zc 0) zi)) (xW 1 2))
@[simp] def z5O:FS:=(wZ (qq (za (zg zR (za (zc 2) zi)) (za (jn (za (zc 1) zi)) zi))))
def z2j:FS:=(zn z5f z5O)
def xR:Mir:=Mof ["lot","greatest","others"] 1 z2j
@[simp] def z99:FS:=(yt 1 (zg zR (za (zc 0) zi)))
@[simp] def z92:FS:=(wZ (qq (za (zc 1) (za (zg xC (za (zc 0) (za (zc 1) zi))) zi))))
def z6d:FS:=(zn z99 z92)
def vO:Mir:=Mof ["lot","by"] 1 z6d
@[simp] def z75:FS:=(wZ (qq (za (eC (.int 0)) (za (jn zi) zi))))
@[simp] def z71:FS:=(fIf (tOf (eOp dEq (eOp dIx (zc 0) (eC (.int 0))) (eC (.int 0)))) z75 xp)
@[simp] def z7F:FS:=(wZ (qq (za (eC (.int 0)) (za (zg xC (za (zc 0) (za (eC (.int 0)) zi))) zi))))
def z3x:FS:=(zn z71 z7F)
def wP:Mir:=Mof ["lot"] 1 z3x
@[simp] def z4r:FS:=fNo
@[simp] def z4u:FS:=(fIf (z1c (tOf (zg xu (za (zc 0) zi)))) z4r xp)
def z0L:FS:=z4u
def yz:Mir:=Mof ["thing"] 1 z0L
@[simp] def jB:FS:=(fIf (z1c (tOf (zg xu (za (zc 0) zi)))) (z5Y "NoRule") xp)
def kM:FS:=jB
def yA:Mir:=z3E ["thing"] 1 kM
@[simp] def z6a:FS:=(yt 2 (zjf qd (zc 0)))
@[simp] def z0I:FS:=(zeF (z88 2 [("by_next",wO),("by_least",xR),("by_all",vO),("by_turn",wP)] (za (zc 1) zi)) (xW 3 4))
@[simp] def z0R:FS:=(wZ (qq (za (zc 3) (za (zD (z0x (za (zg ue (za (zc 1) zi)) zi)) [some 4,some 1,some 3,none] (wo 3) qj (eIf (tOf (eOp (zc1 false) (zc 3) (zc 0))) (eOp z4n (eOp dIx (zc 1) (zc 3)) (eOp dIx (zc 1) (zc 2))) (eC (.int 0)))) zi))))
def z2J:FS:=(zn z6a (zn z0I z0R))
def wF:Mir:=Mof ["rule","lot","deal","by","divided"] 2 z2J
@[simp] def qt:FS:=(wS (zg yz (za (zc 0) zi)))
@[simp] def qE:FS:=(wS (zg yJ (za (zc 1) zi)))
def wX:FS:=(zn qt qE)
def zH:Mir:=Mof ["rule","lot"] 2 wX
@[simp] def z4P:FS:=(wS (zg zH (za (zc 0) (za (zc 1) zi))))
@[simp] def z44:FS:=fNo
@[simp] def z4D:FS:=(fIf (tOf (zg yq (za (zc 1) zi))) z44 xp)
def z0S:FS:=(zn z4P z4D)
def xM:Mir:=Mof ["rule","lot"] 2 z0S
@[simp] def zce:FS:=(wS (zg xM (za (zc 0) (za (zc 1) zi))))
@[simp] def zci:FS:=(zeF (zg wF (za (zc 0) (za (zc 1) zi))) (xW 2 3))
@[simp] def z8E:FS:=(yt 4 (zg vb (za (zD (zgl (za (zc 1) (za (zc 3) zi))) [some 1,some 2,none,none] (xW 2 3) qj (eOp z9U (zc 2) (eOp uo (zc 3) (eOp dIx (zc 0) (zc 1))))) zi)))
@[simp] def z8g:FS:=(wZ (zg jL (za (zc 0) (za (zc 4) zi))))
def zb3:FS:=(zn zce (zn zci (zn z8E z8g)))
def M_step:Mir:=Mof ["rule","lot","by","quotients","left"] 2 zb3
@[simp] def xH:FS:=(yt 3 zhE)
@[simp] def yB:FS:=(yt 5 (z7l (za (zc 4) zi)))
@[simp] def xG:FS:=(wS (z9y (zc 5) (zg M_step (za (zc 0) (za (eOp dIx (zc 5) (z2K (eC (.int 1)))) zi)))))
@[simp] def yE:FS:=(z2v (zfg (tOf (eOp (zgJ true) (eOp dIx (zc 5) (z2K (eC (.int 1)))) (zc 3))) (z1c (tOf (zg yq (za (eOp dIx (zc 5) (z2K (eC (.int 1)))) zi))))) xG)
@[simp] def yD:FS:=(yt 6 (z81 (zc 3) (eOp dIx (zc 5) (z2K (eC (.int 1)))) (eC (.int 0))))
@[simp] def yG:FS:=(zbA (zc 3) (zc 7) (zc 6))
@[simp] def wW:FS:=(zgU 6 (eC (.int 1)))
@[simp] def xJ:FS:=(z73 (xb (zbj (zc 5))) (wo 7) (zn yG wW))
@[simp] def yC:FS:=(z73 (xb (eSl (zg zX (za (zc 1) (za (eC (.int 0)) (za (zc 2) zi)))) (qe (eC (.int 1))) yV)) (wo 4) (zn yB (zn yE (zn yD xJ))))
@[simp] def um:FS:=(wZ (zc 3))
def qO:FS:=(zn xH (zn yC um))
def yN:Mir:=Mof ["rule","size","most","steps","lot","path","many","behind"] 3 qO
def z16:FS:=(zn (z2Y xH) (zn (z2Y yC) (z2Y um)))
def wM:Mir:=z3E ["rule","size","most","steps","lot","path","many","behind"] 3 z16
@[simp] def z0W:FS:=(wZ (eOp dIx (zc 0) (zc 1)))
@[simp] def z19:FS:=(fIf (tOf (eOp dLt (zc 1) (zg ue (za (zc 0) zi)))) z0W xp)
@[simp] def z0X:FS:=(wZ (eC (.int 0)))
def vx:FS:=(zn z19 z0X)
def yI:Mir:=Mof ["_law_script","_law_k"] 2 vx
@[simp] def jF:FS:=(wZ (eOp dEq (zg ue (za (zD (xb (zc 0)) [none] (wo 0) (tOf (eOp dGt (zc 0) (eC (.int 0)))) (zc 0)) zi)) (eC (.int 1))))
def kL:FS:=jF
def xg:Mir:=Mof ["_law_lot_here"] 1 kL
@[simp] def kW:FS:=(wZ (eOp dEq (zg ue (za (zD (xb (zc 0)) [none] (wo 0) (tOf (eOp dGt (zc 0) (eC (.int 0)))) (zc 0)) zi)) (eC (.int 1))))
def z0T:FS:=kW
def wj:Mir:=Mof ["_law_lot"] 1 z0T
@[simp] def z62:FS:=(wZ (z7l (za (eOp z9U (zc 0) (eOp zaS (eC (.int 10)) (eC (.int 18)))) zi)))
@[simp] def z6b:FS:=(fIf (tOf (eOp dGe (zc 0) (eOp zaS (eC (.int 10)) (eC (.int 18))))) z62 xp)
@[simp] def z6r:FS:=(yt 1 (eC (.int 0)))
@[simp] def z0H:FS:=(yt 3 (eOp zaR (eOp uo (eOp qr (eOp qr (eOp zaR (zc 0) (eC (.int 2147483629))) (eOp uo (eC (.int 7919)) (zc 2))) (eC (.int 1))) (eC (.int 48271))) (eC (.int 2147483647))))
@[simp] def z0B:FS:=(yt 3 (eOp zaR (eOp qr (eOp qr (eOp uo (zc 3) (zc 3)) (eOp uo (eC (.int 69621)) (zc 2))) (eC (.int 7))) (eC (.int 2147483587))))
@[simp] def z0J:FS:=(yt 1 (eOp qr (eOp uo (zc 1) (eC (.int 2147483587))) (zc 3)))
@[simp] def z0G:FS:=(z73 (z0x (za (eC (.int 64)) zi)) (wo 2) (zn z0H (zn z0B z0J)))
@[simp] def z67:FS:=(wZ (z7l (za (zc 1) zi)))
def jS:FS:=(zn z6b (zn z6r (zn z0G z67)))
def vn:Mir:=Mof ["_law_cell","_law_number","_law_j","_law_more"] 1 jS
@[simp] def jx:FS:=(wZ (jn (za (eC (.str "all")) (za (eC (.str "least")) (za (eC (.str "next")) (za (eC (.str "turn")) zi))))))
def kg:FS:=jx
def xS:Mir:=Mof [] 0 kg
@[simp] def uS:FS:=(yt 2 (zg ue (za (zc 1) zi)))
@[simp] def vh:FS:=(yt 3 (zg kZ (za (zD (z58 (za (zc 1) zi)) [none,none] (xW 0 1) (tOf (eOp dGt (zc 1) (eC (.int 0)))) (qq (za (zc 1) (za (zc 0) zi)))) zi)))
@[simp] def uV:FS:=(yt 4 (eOp dIx (zD (z0x (za (zc 2) zi)) [some 1,none] (wo 1) (tOf (eOp dEq (eOp dIx (zc 0) (zc 1)) (zg vE (za (zc 0) zi)))) (zc 1)) (eC (.int 0))))
@[simp] def uB:FS:=(yt 5 (z9J "all" "turn" (eOp dIx (eOp dIx (zc 3) (eC (.int 0))) (eC (.int 1))) (eC (.int 0)) (zc 0)))
@[simp] def qi:FS:=(yt 5 (eOp dIx (zD (xb (zc 3)) [some 4,none,none] (xW 1 2) (tOf (eOp dNe (zc 2) (zc 0))) (zc 2)) (eC (.int 0))))
@[simp] def xk:FS:=(fIf (tOf (eOp dEq (zc 0) (eC (.str "least")))) qi xp)
@[simp] def uQ:FS:=(yt 6 (zg vE (za (zD (xb (zc 3)) [some 4,none,none] (xW 1 2) (tOf (eOp dNe (zc 2) (zc 0))) (zc 1)) zi)))
@[simp] def uW:FS:=(yt 5 (eOp dIx (zD (z0x (za (zc 2) zi)) [some 6,some 4,some 1,none] (wo 3) (zfg (tOf (eOp dEq (eOp dIx (zc 2) (zc 3)) (zc 0))) (tOf (eOp dNe (zc 3) (zc 1)))) (zc 3)) (eC (.int 0))))
@[simp] def xn:FS:=(fIf (tOf (eOp dEq (zc 0) (eC (.str "next")))) (zn uQ uW) xp)
@[simp] def wH:FS:=(yt 7 (zD (z0x (za (zc 2) zi)) [some 5,none] (wo 1) (tOf (eOp dNe (zc 1) (zc 0))) (zc 1)))
@[simp] def jC:FS:=(yt 7 (jn (za (zc 4) zi)))
@[simp] def yQ:FS:=(fIf (tOf (eOp (zc1 false) (zc 0) (qq (za (eC (.str "next")) (za (eC (.str "least")) zi))))) jC xp)
@[simp] def yM:FS:=(yt 8 (eOp z8J (z7l (za (eC (.int 0)) zi)) (zc 2)))
@[simp] def jG:FS:=(z4w (zc 8) (zc 9) (eOp z4n (eOp dIx (zc 1) (zc 9)) (eOp dIx (zc 1) (zc 5))))
@[simp] def yH:FS:=(fIf (tOf (eOp dGt (eOp dIx (zc 1) (zc 5)) (eC (.int 0)))) jG xp)
@[simp] def yR:FS:=(z73 (xb (zc 7)) (wo 9) yH)
@[simp] def yK:FS:=(yt 10 (zD (z58 (za (zc 1) zi)) [some 8,some 1,some 5,none,none] (xW 3 4) qj (eOp z9U (zc 4) (eOp uo (eOp dIx (zc 0) (zc 3)) (eOp dIx (zc 1) (zc 2))))))
@[simp] def yO:FS:=(yt 11 (z7l zi))
@[simp] def xy:FS:=(yt 12 (z1U (z0x (za (zc 2) zi)) [some 9,none] (wo 1) qj (zg zeH (za (eOp dEq (zc 0) (zc 1)) zi))))
@[simp] def xE:FS:=(z4w (zc 12) (zc 5) (eOp qr (eOp dIx (zc 12) (zc 5)) (eOp dIx (zc 8) (zc 9))))
@[simp] def jH:FS:=(yt 12 (eOp qr (eSl (zc 12) (qe (eC (.int 1))) yV) (eSl (zc 12) yV (qe (eC (.int 1))))))
@[simp] def yp:FS:=(fIf (tOf (eOp dEq (zc 0) (eC (.str "turn")))) jH xp)
@[simp] def xF:FS:=(wS (z9y (zc 11) (zg vb (za (zc 12) zi))))
@[simp] def yL:FS:=(z73 (z0x (za (zc 2) zi)) (wo 9) (zn xy (zn xE (zn yp xF))))
@[simp] def jz:FS:=(yt 10 (eOp qr (eSl (zc 10) (qe (eC (.int 1))) yV) (eSl (zc 10) yV (qe (eC (.int 1))))))
@[simp] def yc:FS:=(fIf (tOf (eOp dEq (zc 0) (eC (.str "turn")))) jz xp)
@[simp] def yP:FS:=(wZ (qq (za (zg vb (za (zc 10) zi)) (za (zg vb (za (zc 11) zi)) zi))))
def z0Q:FS:=(zn uS (zn vh (zn uV (zn uB (zn xk (zn xn (zn wH (zn yQ (zn yM (zn yR (zn yK (zn yO (zn yL (zn yc yP))))))))))))))
def xL:Mir:=z7C (Mof ["_law_rule","_law_lot_here","_law_size","_law_order","_law_top","_law_by","_law_most","_law_some","_law_quotients","_law_place","_law_later","_law_lines","_law_line"] 2 z0Q)
@[simp] def z1i:FS:=(yt 2 (zg ue (za (zc 1) zi)))
@[simp] def z10:FS:=(yt 3 (zg kZ (za (zD (z58 (za (zc 1) zi)) [none,none] (xW 0 1) (tOf (eOp dGt (zc 1) (eC (.int 0)))) (qq (za (zc 1) (za (zc 0) zi)))) zi)))
@[simp] def z1g:FS:=(yt 4 (eOp dIx (zD (z0x (za (zc 2) zi)) [some 1,none] (wo 1) (tOf (eOp dEq (eOp dIx (zc 0) (zc 1)) (zg vE (za (zc 0) zi)))) (zc 1)) (eC (.int 0))))
@[simp] def z1a:FS:=(yt 5 (z9J "all" "turn" (eOp dIx (eOp dIx (zc 3) (eC (.int 0))) (eC (.int 1))) (eC (.int 0)) (zc 0)))
@[simp] def z1d:FS:=(yt 5 (eOp dIx (zD (xb (zc 3)) [some 4,none,none] (xW 1 2) (tOf (eOp dNe (zc 2) (zc 0))) (zc 2)) (eC (.int 0))))
@[simp] def z18:FS:=(fIf (tOf (eOp dEq (zc 0) (eC (.str "least")))) z1d xp)
@[simp] def z12:FS:=(yt 6 (zg vE (za (zD (xb (zc 3)) [some 4,none,none] (xW 1 2) (tOf (eOp dNe (zc 2) (zc 0))) (zc 1)) zi)))
@[simp] def z1m:FS:=(yt 5 (eOp dIx (zD (z0x (za (zc 2) zi)) [some 6,some 4,some 1,none] (wo 3) (zfg (tOf (eOp dEq (eOp dIx (zc 2) (zc 3)) (zc 0))) (tOf (eOp dNe (zc 3) (zc 1)))) (zc 3)) (eC (.int 0))))
@[simp] def z0Z:FS:=(fIf (tOf (eOp dEq (zc 0) (eC (.str "next")))) (zn z12 z1m) xp)
@[simp] def z0j:FS:=(yt 7 (zD (z0x (za (zc 2) zi)) [some 5,none] (wo 1) (tOf (eOp dNe (zc 1) (zc 0))) (zc 1)))
@[simp] def z0w:FS:=(yt 7 (jn (za (zc 4) zi)))
@[simp] def z0c:FS:=(fIf (tOf (eOp (zc1 false) (zc 0) (qq (za (eC (.str "next")) (za (eC (.str "least")) zi))))) z0w xp)
@[simp] def z0a:FS:=(yt 8 (eOp z8J (z7l (za (eC (.int 0)) zi)) (zc 2)))
@[simp] def z0s:FS:=(z4w (zc 8) (zc 9) (eOp z4n (eOp dIx (zc 1) (zc 9)) (eOp dIx (zc 1) (zc 5))))
@[simp] def z0g:FS:=(fIf (tOf (eOp dGt (eOp dIx (zc 1) (zc 5)) (eC (.int 0)))) z0s xp)
@[simp] def kY:FS:=(z73 (xb (zc 7)) (wo 9) z0g)
@[simp] def z0o:FS:=(yt 10 (zD (z58 (za (zc 1) zi)) [some 8,some 1,some 5,none,none] (xW 3 4) qj (eOp z9U (zc 4) (eOp uo (eOp dIx (zc 0) (zc 3)) (eOp dIx (zc 1) (zc 2))))))
@[simp] def z0k:FS:=(yt 11 (z7l zi))
@[simp] def z0n:FS:=(yt 12 (z1U (z0x (za (zc 2) zi)) [some 9,none] (wo 1) qj (zg zeH (za (eOp dEq (zc 0) (zc 1)) zi))))
@[simp] def z0l:FS:=(z4w (zc 12) (zc 5) (eOp qr (eOp dIx (zc 12) (zc 5)) (eOp dIx (zc 8) (zc 9))))
@[simp] def z0i:FS:=(yt 12 (eOp qr (eSl (zc 12) (qe (eC (.int 1))) yV) (eSl (zc 12) yV (qe (eC (.int 1))))))
@[simp] def z05:FS:=(fIf (tOf (eOp dEq (zc 0) (eC (.str "turn")))) z0i xp)
@[simp] def z0b:FS:=(wS (z9y (zc 11) (zg vb (za (zc 12) zi))))
@[simp] def z0t:FS:=(z73 (z0x (za (zc 2) zi)) (wo 9) (zn z0n (zn z0l (zn z05 z0b))))
@[simp] def z0q:FS:=(yt 10 (eOp qr (eSl (zc 10) (qe (eC (.int 1))) yV) (eSl (zc 10) yV (qe (eC (.int 1))))))
@[simp] def kX:FS:=(fIf (tOf (eOp dEq (zc 0) (eC (.str "turn")))) z0q xp)
@[simp] def z01:FS:=(wZ (qq (za (zg vb (za (zc 10) zi)) (za (zg vb (za (zc 11) zi)) zi))))
def z1K:FS:=(zn z1i (zn z10 (zn z1g (zn z1a (zn z18 (zn z0Z (zn z0j (zn z0c (zn z0a (zn kY (zn z0o (zn z0k (zn z0t (zn kX z01))))))))))))))
def xD:Mir:=z7C (Mof ["_law_rule","_law_lot","_law_size","_law_order","_law_top","_law_by","_law_most","_law_some","_law_quotients","_law_place","_law_later","_law_lines","_law_line"] 2 z1K)
@[simp] def z4R:FS:=(yt 2 (eOp zaR (eOp dIx (zc 0) (eC (.int 0))) (zc 1)))
@[simp] def z3W:FS:=(z4w (zc 0) (eC (.int 0)) (eOp z4n (eOp dIx (zc 0) (eC (.int 0))) (zc 1)))
@[simp] def z3Y:FS:=(wZ (zc 2))
def z0K:FS:=(zn z4R (zn z3W z3Y))
def zL:Mir:=Mof ["_law_pot_here","_law_far","_law_found"] 2 z0K
@[simp] def z32:FS:=(wZ (zc4 (eIs "int" (zc 0)) (zjj (eIs "bool" (zc 0)))))
def kz:FS:=z32
def xU:Mir:=Mof ["_law_thing"] 1 kz
@[simp] def qm:FS:=(yt 2 (jn (za (zeo (zc 1)) (za (eOp zdz (zc 1) (eC (.str " "))) (za (zl7 (zc 1) (qe (eC (.int 1)))) (za (eOp zdz (zc 1) (eC (.str "s"))) (za (eC (.str "")) (za (eC .non) (za (eC (.int 3)) (za (qq (za (zc 1) zi)) (za (jn (za (zc 1) zi)) (za (eC (.bl true)) (za (eC .dct) zi)))))))))))))
@[simp] def qo:FS:=(wZ (eOp dIx (zc 2) (zg zL (za (zc 0) (za (eC (.int 11)) zi)))))
def qw:FS:=(zn qm qo)
def xz:Mir:=Mof ["_law_pot_here","_law_rule","_law_some"] 2 qw
@[simp] def wN:FS:=(yt 2 (z7l (za (zc 1) zi)))
@[simp] def wQ:FS:=(yt 3 (z7l zi))
@[simp] def yy:FS:=(zeF (zg xL (za (zc 0) (za (eOp dIx (zc 2) (z2K (eC (.int 1)))) zi))) (xW 4 5))
@[simp] def xP:FS:=(wS (z9y (zc 2) (zc 4)))
@[simp] def xV:FS:=(wS (z9y (zc 3) (zc 5)))
@[simp] def xh:FS:=(z2v (z1c (tOf (zg xg (za (eOp dIx (zc 2) (z2K (eC (.int 1)))) zi)))) (zn yy (zn xP xV)))
@[simp] def vW:FS:=(wZ (qq (za (zc 2) (za (zc 3) zi))))
def wB:FS:=(zn wN (zn wQ (zn xh vW)))
def zT:Mir:=Mof ["_law_rule","_law_lot_here","_law_lots","_law_tables","_law_later","_law_table"] 2 wB
@[simp] def z46 (Mr:Mir):FS:=(wZ (eC (.bl false)))
@[simp] def kN (Mr:Mir):FS:=(fIf (fOr (tOf (eOp dNe (eIs "list" (zc 1)) (eIs "list" (zc 0)))) (tOf (eOp dNe (eIs "tuple" (zc 1)) (eIs "tuple" (zc 0))))) (z46 Mr) xp)
@[simp] def uT (Mr:Mir):FS:=(wZ (zc4 (eOp dEq (zg ue (za (zc 0) zi)) (zg ue (za (zc 1) zi))) (zg zcM (za (zD (zgl (za (zc 0) (za (zc 1) zi))) [none,none] (xW 0 1) qj (zg Mr (za (zc 0) (za (zc 1) zi)))) zi))))
@[simp] def uI (Mr:Mir):FS:=(fIf (tOf (zhT "list" "tuple" (zc 1))) (zn (kN Mr) (uT Mr)) xp)
@[simp] def z4N (Mr:Mir):FS:=(wZ (zc4 (eOp dEq (zc 0) (zc 1)) (eOp dEq (eIs "bool" (zc 0)) (eIs "bool" (zc 1)))))
@[simp] def z4J (Mr:Mir):FS:=(fIf (fOr (tOf (eOp dIs (zc 1) (eC .non))) (fOr (tOf (eIs "bool" (zc 1))) (tOf (eIs "str" (zc 1))))) (z4N Mr) xp)
@[simp] def z4i (Mr:Mir):FS:=(wZ (zc4 (zg xU (za (zc 0) zi)) (eOp dEq (zc 0) (zc 1))))
def qR(Mr:Mir):FS:=(zn (uI Mr) (zn (z4J Mr) (z4i Mr)))
def zA:Nat->Mir
 | 0=>fun _ _=>.no | k+1=>Mof ["_law_found","_law_due"] 2 (qR (zA k))
def uX:Mir:=zA 5
end Pg
namespace Dd
open L2
theorem zas {prog:Program} {w:World} {A:Around} {E:Value->Shared->Prop} {s:Shared} {it d:Addr} {i ep:Nat} {o:Obj} {es:Array DictEntry} {e:DictEntry} {Q:Option Value->Shared->Prop} (hit:s.heap.IsValIter it d i es.size ep) (hod:s.heap.get? d=some o) (hdd:o.data=.dict es ep) (he:es[i]? = some e) (hQ:∀ h':Heap,h'.IsValIter it d (i+1) es.size ep->Heap.SameBut it s.heap h'->Q (some e.val) {s with heap:=h'}):wpAny (model prog w) A (pyNext (.ref it)) Q E s:=by
 obtain ⟨oi,ho,hc,hd⟩:=id hit;refine _a (_bb (_G hit.typeIs _an (_I _an hit.typeIs _bR ?_ (_bQ _))));refine _a (_c (_a (_a (_a (_aM hit.typeIs (_c (_a (_cz ho hd ?_))))))));have hown:Builtin.Dict_items.ownsTuple "dict_valueiterator"=false:=by decide +kernel
 rw [hown];simp only [_az,_ak,_cA];show wpAny _ _ (if (Value.ref d==Value.none)=true then _ else _) _ _ _;rw [_q (by simp)];refine _a (_c (_a (_a9 hod hdd ?_)));rw [_q (by simp)];refine _a (_c (_a (_bk hod hdd ?_)));rw [_q (by simp)];refine _c ?_;have hi:(if (i:Int)<0 then none else es[(i:Int).toNat]?)=some e:=by rw [_q (by omega)];simpa using he
 show wpAny _ _ (match (if (i:Int)<0 then none else es[(i:Int).toNat]?) with | some e=>_ | none=>_) _ _ _;rw [hi];refine _a (_a (_aM hit.typeIs (_c ?_)));rw [hown];refine _a (_bV hit.typeIs ?_);refine _a (_bp ho hd (show 1<4 by decide) ?_);have st':∀ g:Array Value->Array Value,g #[Value.ref d,Value.int (i:Int) 0,Value.int (es.size:Int) 0,Value.int (ep:Int) 0]=#[Value.ref d,Value.int ((i+1:Nat):Int) 0,Value.int (es.size:Int) 0,Value.int (ep:Int) 0]->(s.heap.update it (Obj.mapFields g)).IsValIter it d (i+1) es.size ep:=fun g hg=>by
  obtain ⟨c0,d0,da,sl⟩:=oi;simp only at hc hd;subst hc hd;refine ⟨_,_bm _ ho rfl,rfl,?_⟩;show Data.fields (g _)=_;rw [hg]
 have st2:=st' (fun x=>x.setIfInBounds 1 (rawInt ((i:Int)+1))) (by simp [rawInt]);refine _a (_au ?_);refine _a (_bV st2.typeIs ?_);rw [_q (by decide +kernel)];refine _a (_bV st2.typeIs ?_);rw [_f (by decide +kernel)];refine _c (_c ⟨_,rfl,_c ?_⟩);exact hQ _ st2 (_ap ..)
theorem zdD {prog:Program} {w:World} {A:Around} {E:Value->Shared->Prop} {s:Shared} {it d:Addr} {i ep:Nat} {o:Obj} {es:Array DictEntry} {Q:Option Value->Shared->Prop} (hh:A.handled=none) (hit:s.heap.IsValIter it d i es.size ep) (hod:s.heap.get? d=some o) (hdd:o.data=.dict es ep) (he:es[i]? = none) (hQ:∀ h':Heap,Heap.ExtBut it s.heap h'->Q none {s with heap:=h'}):wpAny (model prog w) A (pyNext (.ref it)) Q E s:=by
 obtain ⟨oi,ho,hc,hd⟩:=id hit;refine _a (_bb (_G hit.typeIs _an (_I _an hit.typeIs _bR ?_ (_bQ _))));refine _a (_c (_a (_a (_a (_aM hit.typeIs (_c (_a (_cz ho hd ?_))))))));have hown:Builtin.Dict_items.ownsTuple "dict_valueiterator"=false:=by decide +kernel
 rw [hown];simp only [_az,_ak,_cA];show wpAny _ _ (if (Value.ref d==Value.none)=true then _ else _) _ _ _;rw [_q (by simp)];refine _a (_c (_a (_a9 hod hdd ?_)));rw [_q (by simp)];refine _a (_c (_a (_bk hod hdd ?_)));rw [_q (by simp)];refine _c ?_;have hi:(if (i:Int)<0 then none else es[(i:Int).toNat]?)=none:=by rw [_q (by omega)];simpa using he
 show wpAny _ _ (match (if (i:Int)<0 then none else es[(i:Int).toNat]?) with | some e=>_ | none=>_) _ _ _;rw [hi];refine _a (_a (_aM hit.typeIs (_c ?_)));rw [hown];refine _a (_bp ho hd (show 0<4 by decide) ?_);show wpAny _ _ (newExc (.type "StopIteration") [] >>= _) _ _ _;refine _a ?_;simp only [newExc,newTuple];refine _a (_L ?_ (by size_fits));refine _a (m:=firstArgMember _ _) (wpAny_of_eq (a:=Value.none) (by first | rfl | (simp only [firstArgMember];rfl)) ?_);refine _L ?_ (by size_fits);simp only [raiseNew];refine _a (wpAny_handled ?_);first | rw [show A.in1.handled=none from hh] | rw [hh]
 refine _a (_c (wpAny_throw ?_));refine _a (_b2 (T:="StopIteration") (b:=true) ⟨_,_h _ rfl,rfl⟩ _cx ?_);exact _c (hQ _ (((_ap ..).extBut.push _).push _))
section
variable {prog:Program}{w:World}{A:Around}{E:Value->Shared->Prop}{s:Shared}{d:Addr}{es:Array DictEntry}{ep:Nat}
theorem zay {v:Addr} {Q:Value->Shared->Prop} (hv:s.heap.IsValuesView v d) (hm:zc7 s.heap d es ep) (hQ:Q (.ref s.heap.objs.size) {s with heap:=s.heap.push {cls:=.type "dict_valueiterator",data:=.fields #[.ref d,.int 0 0,.int es.size 0,.int ep 0]}}): wpAny (model prog w) A (pyIter (.ref v)) Q E s:=by
 obtain ⟨ov,hov,hcv,hdv⟩:=id hv;obtain ⟨o,ho,hc,hdat⟩:=id hm;refine wpAny_pyIter_slot hv.typeIs F.slot_dict_values_iter (_I F.slot_dict_values_iter hv.typeIs F.entry_dict_values_iter ?_ (F.args_dict_values_iter_1 _));unfold Builtin.«dict_values.__iter__»;refine _a (_c (_a ?_));unfold Builtin.Dict_items.dictOf;refine _a (_R hov hdv (x:=.ref d) rfl (_c (_a ?_)));unfold Builtin.Dict_items.newIterator;refine _a (_a9 ho hdat (_a (_bk ho hdat ?_)));have hown:Builtin.Dict_items.ownsTuple "dict_valueiterator"=false:=by decide +kernel
 simp only [hown,_az,_ak];refine _L (_c ⟨_,rfl,"dict_valueiterator",_,⟨_,_h _ rfl,rfl⟩,_an.lookup,?_⟩);simpa [rawInt] using hQ
theorem z8H(hh:A.handled=none)(I d:Addr)(hne:d≠I)(es:Array DictEntry)(ep:Nat): Walks prog w A I [I,d] [I] es.size (fun i v=>∃ e,es[i]? = some e/\v=e.val) (fun i h=>h.IsValIter I d i es.size ep/\zc7 h d es ep) where
 sub:=fun b hb=>by simp at hb;simp [hb]
 frame:=fun _ _ _ st hk=>⟨let ⟨o,ho,r⟩:=st.1;⟨o,hk I (by simp) o ho,r⟩,st.2.at fun o e=>hk d (by simp) o e⟩;item:=fun i s Q E hi st hQ=>by
  obtain ⟨e,hx⟩:∃ p,es[i]? = some p:=⟨es[i],by simp [hi]⟩;obtain ⟨o,ho,hc,hdat⟩:=id st.2;refine zas st.1 ho hdat hx fun h' hit' hs'=>?_;exact hQ e.val h' s.toks ⟨e,hx,rfl⟩ ⟨hit',st.2.at fun o e=>hs'.extBut d o hne e⟩ fun b o hb e=>hs'.extBut b o (fun h=>hb (by simp [h])) e
 done:=fun s Q E st hQ=>by
  obtain ⟨o,ho,hc,hdat⟩:=id st.2;exact zdD hh st.1 ho hdat (by simp) fun h' he'=>hQ h' s.toks fun b o hb e=>he' b o (fun h=>hb (by simp [h])) e
 self:=fun _ _ _ _ st hQ=>wpAny_pyIter_valiter st.1 hQ
end
end Dd
namespace L2
open Dd Zz
def zb7(v a:Addr):HO:=.ext fun h=>h.IsValuesView v a
section
variable {X:Cx}{o:Expr}{apos cpos:Pos}
def zjS(td:TE):TE:=fun O H Q=>td O H fun x H1=>∃ a kvs,x=.ref a/\Rd H1 a (.dT kvs)/\∀ v,H1 v=none->Q (.ref v) (upd H1 v (zb7 v a))
theorem zgC {td:TE} (ho:PE X o td) (hbase:attributeBase o "values" X.env (eval o X.env)=eval o X.env:=by rfl) (hline:(apos.endLine==cpos.line)=true:=by rfl): PE X (.Call (.Attribute o "values" apos) [] [] cpos) (zjS td):=by
 intro pins s O H Q I h;refine wpAny_Call_method hbase rfl hline _bI PySem.F.slot_dict_values PySem.F.type_dict_values (thn (ho pins s O H _ I h) fun u s1 ⟨x,H1,I1,rx,a,kvs,ex,d,q1⟩=>?_);subst ex;obtain rfl:u=Value.ref a:=rx;obtain ⟨t1,t2,lo⟩:=zeg I1 (.inr ⟨kvs,d⟩);refine ⟨t1,t2,?_⟩;rw [show backTo cpos (starEach [] X.env)=[] from rfl];refine _aS rfl (PyProof.Rows.evalArgs_empty ?_);refine _I PySem.F.slot_dict_values t1 PySem.F.entry_dict_values ?_ (PySem.F.args_dict_values_1 _);refine _a ?_;unfold Builtin.Dict.noArgs;refine _a (wpAny_notOrdered_dict t1 ?_);show wpAny _ _ (pure a) _ _ s1;refine _c ?_;show wpAny _ _ (Builtin.Dict.showsAll a >>= _) _ _ s1;unfold Builtin.Dict.showsAll;rw [_q (by rw [lo];exact _N)];refine _a (_c (_a (_L (_c ⟨_,rfl,?_⟩))));have vw:(s1.heap.push {cls:=.type "dict_values",data:=.fields #[.ref a]}).IsValuesView s1.heap.objs.size a:=⟨_,_h _ rfl,rfl,rfl⟩;refine ⟨.ref s1.heap.objs.size,_,I1.laid (t':=s1.toks) (o:=zb7 s1.heap.objs.size a) (fun b o e=>_d _ e) (_g _) ⟨vw,⟨_,_h _ rfl⟩,fun h1 h2 ⟨o,g,c,e⟩ k=>⟨o,k o g,c,e⟩⟩,rfl,q1 _ (I1.hok.fresh (_g _))⟩
def zjI:List V->Hp->VK->Prop:=fun xs H Q=>∃ v a kvs ns,xs=[.ref v]/\H v=some (zb7 v a)/\Rd H a (.dT kvs)/\kvs.map (·.2)=ns.map V.int/\ns≠[]/\Q (.int (maxL ns)) H
theorem zbk (hc:X.calm=true):xK X (.builtin "max") zjI:=by
 intro pins s O H xs us Q I r h;obtain ⟨v,a,kvs,ns,rfl,hv,hd,hn,hne,q⟩:=h;obtain ⟨u,rfl,ru⟩:=vals1 r;cases ru;obtain ⟨vw,_,_⟩:=(show yj X.prog X.w H s.heap v (zb7 v a) from I.hok v _ hv);obtain ⟨z,lo,ws,rel,o,es,ep,h1,h2,h3,h4,h5,h6⟩:=z6p I.hok hd;have hl:ws.length=kvs.length:=(_b6 rel).symm;have hsz:es.size=ws.length:=size_of_entries h4;have hnl:ns.length=kvs.length:=by have:=_aC List.length hn;simpa using this.symm
 have hpos:0<ns.length:=_cl.mpr hne;have lt:a<s.heap.objs.size:=_l h1;have val:∀ (i:Nat) (u:Value),(∃ e,es[i]? = some e/\u=e.val)->∃ t,u=.int (ns.getD i 0) t/\i<ns.length:=fun i u ⟨e,he,eu⟩=>by
  rw [entry_at h4] at he;obtain ⟨x,hx,rfl⟩:=_v.mp he;have hi:i<kvs.length:=by have:=(_b.mp hx).1;omega
  obtain ⟨x',hx',r1,r2,r3⟩:=Dd.z0d rel i kvs[i] (_e hi);rw [hx] at hx';cases hx';have en:kvs[i].2=V.int (ns.getD i 0):=by
   have:=_aC (·[i]?) hn;simp only [_P,_e hi,_e (show i<ns.length by omega),_S,_w] at this;rw [this];simp [List.getD,show i<ns.length by omega]
  rw [en] at r3;obtain ⟨t,r3⟩:=r3;exact ⟨t,by rw [eu];exact r3,by omega⟩
 refine call_max_walk (zay vw ⟨o,h1,h2,h3⟩ ?_);refine ⟨s.heap.objs.size,_,_,_,_,_,_,rfl,z8H (A:=X.A.in1) (I.ok.hd hc) s.heap.objs.size a (_x lt) es ep,⟨⟨_,_h _ rfl,rfl,rfl⟩,zc7.at ⟨o,h1,h2,h3⟩ fun o e=>_d _ e⟩,fun c hc=>?_,by omega,CmpOf.ints_gt (fun i=>ns.getD i 0) (fun i v e=>let ⟨t,e1,_⟩:=val i v e;⟨t,e1⟩),fun v h' tk e hk=>?_⟩
 ·have:c=s.heap.objs.size\/c=a:=by simpa using hc
  rw [size_push'];rcases this with rfl | rfl;·exact _aT _
  ·exact _aj lt
 ·obtain ⟨t,e1,lt'⟩:=val _ _ e;obtain ⟨_,k2⟩:=argBest_gt (fun i=>ns.getD i 0) (es.size-1);have em:ns.getD (argBest (fun i j=>decide (ns.getD i 0 > ns.getD j 0)) (es.size-1)) 0=maxL ns:=by
   refine _ch (maxL_ge _ (getD_in lt')) ?_;obtain ⟨j,hj,ej⟩:=_D.mp (maxL_mem hne);have:=k2 j (by omega);simp only [List.getD,_e hj,_aH,ej] at this;simpa [List.getD] using this
  rw [e1,em];refine ⟨.int (maxL ns),H,I.kept (t':=tk) (fun b o g=>hk b o (fun z=>?_) (_d _ g)),⟨t,rfl⟩,q⟩;have eb:b=s.heap.objs.size:=by simpa using z
  exact absurd (eb ▸ _l g) (_am _)
end
end L2
namespace Dd
open L2
def z2L:List (List Key×V)->Option (List Int)
 | []=>some [] | (_,.int i)::r=>(z2L r).map (i::·) | _::_=>none
theorem z61:∀ {kvs:List (List Key×V)}{ns:List Int},z2L kvs=some ns->kvs.map (·.2)=ns.map V.int
 | [],_,h=>by cases h;rfl | (k,v)::r,ns,h=>by cases v with
  | int i=>
   simp only [z2L] at h;obtain ⟨m,hm,rfl⟩:=_v.mp h;simp [z61 hm] | _=>simp [z2L] at h
section
variable {X:Cx}{E:XK}{o:Expr}{x:Str}{p pos apos cpos:Pos}
def zcJ(f:FE):FE:=fun Z s=>(f Z s).bind fun d s1=>match d with
 | .dlo l=>match ((s1[l]?).bind zc3).bind z2L with
  | some (n::ns)=>.ok (.int (maxL (n::ns))) s1 | _=>.no
 | _=>.no
theorem zio{f:FE}(hc:X.calm=true)(hg:Gl X "max")(hm:X.mg "max"=none)(hv:bootBuiltins "max"=some (.builtin "max"))(ho:RE X E o f)(hbase:attributeBase o "values" X.env (eval o X.env)=eval o X.env:=by rfl)(hline:(apos.endLine==cpos.line)=true:=by rfl): RE X E (.Call (.Name "max" p) [.Call (.Attribute o "values" apos) [] [] cpos] [] pos) (zcJ f):= zE (jl (zbk hc) hg hm hv (yT (zgC ho hbase hline) ux) (by decide) (by decide) rfl rfl) fun O H Q ⟨Y,Z,s,r,en,h⟩=>by
  unfold zcJ at h;refine zB (k:=fun Z d s1=>match d with
   | .dlo l=>match ((s1[l]?).bind zc3).bind z2L with
    | some (n::ns)=>R.ok (D.int (maxL (n::ns))) s1 | _=>.no
   | _=>.no) r en h _ fun v H1 Y1 s1 d r1 en1 dn stp h1=>?_;split at h1
  ·rename_i l;split at h1
   ·rename_i n ns ek;obtain ⟨kvs,ek,evn⟩:=_ac.mp ek;obtain ⟨xs,ex,edc⟩:=_ac.mp ek;simp only [Den] at dn;obtain ⟨a,rfl,e1,ka⟩:=dn;obtain ⟨al,q⟩:=r1.dicF ex e1 ka edc;have rd:Rd H1 a (.dT kvs):=q.imp (fun q=>q.1) fun ⟨o,q,_⟩=>⟨o,q⟩;refine ⟨a,kvs,rfl,rd,fun v hv=>?_⟩;have ne:a≠v:=fun z=>by rcases rd with g | ⟨_,g⟩<;>rw [z,hv] at g<;>cases g
    have rd2:Rd (upd H1 v (zb7 v a)) a (.dT kvs):=rd.imp (fun g=>by rw [zx ne];exact g) fun ⟨o,g⟩=>⟨o,by rw [zx ne];exact g⟩;exact ⟨v,a,kvs,n::ns,rfl,zC,rd2,z61 evn,by simp,h1 _ _ _ (xr.lay r1 hv (by intro _ z;cases z)) yn⟩
   ·exact h1.elim
  ·exact h1.elim
end
@[simp] theorem zeP (f:FE)(Z:Ev)(s:Sto):zcJ f Z s=(f Z s).bind fun d s1=>match d with
 | .dlo l=>match ((s1[l]?).bind zc3).bind z2L with
  | some (n::ns)=>.ok (.int (maxL (n::ns))) s1 | _=>.no
 | _=>.no:=id rfl
def z5W(s:Sto):D->D
 | .tup xs=>.tup (xs.map (see s)) | d=>see s d
def zix(x y:D)(s:Sto):R D:=if zbn (z5W s x)=true/\zbn (z5W s y)=true then .ok (.bl (eqD (z5W s x) (z5W s y))) s else .no
section
variable {X:Cx}{E:XK}
theorem zq.readsS{P:Program}{w:World}{mg:Gm}{H:Hp}{Y:List Addr}{h:Heap}{s:Sto}(ok:HOk P w H h)(rp:Rep mg H Y s):∀ {ds:List D}{vs:List V}{us:List Value},PyData.canLayAll0 (toPys (ds.map (see s)))=true->zq mg H Y ds vs->ym vs us->∃ as,ReadsAll h us (toPys (ds.map (see s))) as
 | [],_,_,_,dn,r=>by simp only [zq] at dn;subst dn;cases r;exact ⟨_,by simpa [toPys] using ReadsAll.nil⟩ | d::ds,_,_,c,dn,r=>by
  simp only [zq] at dn;obtain ⟨v,vs,rfl,h1,h2⟩:=dn;simp only [_s,toPys,PyData.canLayAll0,_E] at c;cases r with | cons r1 r2=>
   obtain ⟨as,q⟩:=Den.readsS ok rp c.1 h1 r1;obtain ⟨bs,q'⟩:=zq.readsS ok rp c.2 h2 r2;rw [_s,toPys];exact ⟨_,ReadsAll.cons q q'⟩
theorem Den.readsT{P:Program}{w:World}{mg:Gm}{H:Hp}{Y:List Addr}{h:Heap}{s:Sto}(ok:HOk P w H h)(rp:Rep mg H Y s){d:D}{v:V}{u:Value}(c:PyData.canLay0 (ki (z5W s d))=true)(dn:Den mg H Y d v)(r:yu v u):∃ as,Reads h u (ki (z5W s d)) as:=by cases d with
 | tup ds=>
  simp only [z5W] at c ⊢;simp only [Den] at dn;obtain ⟨a,vs,rfl,h1,h2⟩:=dn;cases r;obtain ⟨_,its,rv,o,e,hc,_,n,hd⟩:=ok a _ h1;obtain ⟨as,q⟩:=zq.readsS ok rp (by simpa [ki,PyData.canLay0] using c) h2 rv;rw [ki];exact ⟨as,Reads.tuple e hc hd (by simpa using q)⟩ | _=>simp only [z5W] at c ⊢;exact Den.readsS ok rp c dn r
def zlm(mg:Gm):R2:=fun x y H Q=>∃ Y s d1 d2,Rep mg H Y s/\Den mg H Y d1 x/\Den mg H Y d2 y/\zbn (z5W s d1)=true/\zbn (z5W s d2)=true/\Q (.bl (eqD (z5W s d1) (z5W s d2))) H
theorem zhD(hu:X.A.units+64<cLine):OpR X (compareOp .Eq) (zlm (gm X)):=by
 intro pins s O H x y v u Q I rx ry ⟨Y,st,d1,d2,rp,h1,h2,p1,p2,q⟩;obtain ⟨as,ra⟩:=Den.readsT I.hok rp (_aD p1) h1 rx;obtain ⟨bs,rb⟩:=Den.readsT I.hok rp (_aD p2) h2 ry;exact SeqAt.compareEq_shaped ra rb p1 p2 hu ⟨.bl (eqD (z5W st d1) (z5W st d2)),H,I,rfl,q⟩
theorem zjX(hu:X.A.units+64<cLine):∃ r,OpR X (compareOp .Eq) r/\OpF X E r zix:=⟨_,zhD hu,fun H Y s d1 d2 v1 v2 Q r h1 h2 h=>by
 unfold zix at h;split at h
 ·rename_i hc;exact ⟨Y,s,d1,d2,r,h1,h2,hc.1,hc.2,h.here r yX⟩
 ·exact h.elim⟩
end
end Dd
set_option maxRecDepth 1000000
set_option maxHeartbeats 4000000
namespace Pm
abbrev Tb:=List (List Int)
def one(n:Nat):Tb:=(List.range n).map fun i=>(List.range n).map fun j=>if i=j then 1 else 0
end Pm
set_option maxRecDepth 1000000
set_option maxHeartbeats 40000000
namespace Pm
end Pm
set_option maxRecDepth 1000000
set_option maxHeartbeats 40000000
namespace Pm
abbrev Sz(n:Nat):Prop:=n=2\/n=3\/n=4
open L2 (maxL minL maxL_ge maxL_mem minL_le minL_mem)
inductive Rl where | nx | le | al | tu deriving DecidableEq
structure Lot(n:Nat)(v:List Int):Prop where
 sz:Sz n
 len:v.length=n
 nn:∀ x∈v,0<=x
 pos:∃ x∈v,0<x
def nz(v:List Int):List Int:=v.filter fun x=>decide (x≠0)
def ended(v:List Int):Bool:=decide ((nz v).length=1)
def gp(v:List Int):Nat:=v.idxOf (maxL v)
def others(v:List Int):List Int:=v.take (gp v)++[0]++v.drop (gp v+1)
def lp(v:List Int):Nat:=v.idxOf (minL (nz v))
def xt(v:List Int)(p:Nat):List Nat:=(List.range v.length).filter fun i=>decide (i≠p)
def deal:Rl->List Int->Nat×List Nat
 | .nx,v=>((others v).idxOf (maxL (others v)),[gp v]) | .le,v=>(lp (others v),[gp v]) | .al,v=>(lp v,xt v (lp v)) | .tu,v=>(0,if v.getD 0 0=0 then [] else xt v 0)
def yk(v:List Int)(d:Nat×List Nat):List Int:=(List.range v.length).map fun i=>if i∈d.2 then v.getD i 0 / v.getD d.1 0 else 0
def rot{α:Type}(xs:List α):List α:=xs.drop 1++xs.take 1
def mvd{α:Type}(r:Rl)(xs:List α):List α:=if r=.tu then rot xs else xs
def left(v qs:List Int)(b:Nat):List Int:=List.zipWith (fun x q=>x-q*v.getD b 0) v qs
def stp(r:Rl)(v:List Int):List Int:=mvd r (left v (yk v (deal r v)) (deal r v).1)
def z15(b:Nat)(line:List Int)(q:Int):List Int:=line.take b++[line.getD b 0+q]++line.drop (b+1)
def zgB(r:Rl)(b:Nat)(qs:List Int):Tb:=List.zipWith (fun line q=>mvd r (z15 b line q)) (one qs.length) qs
def z7w(r:Rl)(v:List Int):Tb:=zgB r (deal r v).1 (yk v (deal r v))
theorem zb8{α:Type}{x:α}{xs:List α}:x∈rot xs ↔ x∈xs:=by cases xs with
 | nil=>simp [rot] | cons a xs=>simp [rot,or_comm]
theorem z7b{α:Type}{x:α}{xs:List α}{l:Rl}:x∈mvd l xs ↔ x∈xs:=by
 unfold mvd;split;·exact zb8
 ·rfl
theorem zeY{α:Type}(xs:List α):(rot xs).length=xs.length:=by cases xs<;>simp [rot]
theorem zgy{α:Type}{l:Rl}(xs:List α):(mvd l xs).length=xs.length:=by
 unfold mvd;split;·exact zeY xs
 ·rfl
structure Qs(v:List Int)(b:Nat)(qs:List Int):Prop where
 lt:b<v.length
 len:qs.length=v.length
 zero:qs[b]? = some 0
 nn:∀ q∈qs,0<=q
 fit:∀ i,0<=v.getD i 0-qs.getD i 0*v.getD b 0
 pos:(∀ q∈qs,q=0)\/0<v.getD b 0
theorem zdh{α:Type}{v:List α}{b:Nat}(h:b<v.length):∃ v1 z v2,v=v1++z::v2/\v1.length=b:= ⟨v.take b,v[b],v.drop (b+1),by rw [<- _aF h,List.take_append_drop],by simp;omega⟩
theorem getD_at{α:Type}{v1 v2:List α}{z d:α}{b:Nat}(h:v1.length=b):(v1++z::v2).getD b d=z:=by
 subst h;simp [List.getD]
theorem vf{v qs:List Int}{b:Nat}(h:qs.length=v.length):(left v qs b).length=v.length:=by simp [left,h]
theorem zfo{v qs:List Int}{b:Nat}(h:Qs v b qs):∀ x∈left v qs b,0<=x:=fun x hx=>by
 obtain ⟨i,hi,e⟩:=_D.mp hx;have:=h.fit i;have hl:=vf (b:=b) h.len;have h1:i<v.length:=by omega
 have h2:i<qs.length:=by rw [h.len];exact h1
 simp only [List.getD,_e h1,_e h2,_aH] at this;rw [<- e];simpa [left,List.getD] using this
theorem z54{α:Type}(xs:List α):mvd .tu xs=rot xs:=by simp [mvd]
theorem z3u{α:Type}{r:Rl}(h:r≠.tu)(xs:List α):mvd r xs=xs:=by simp [mvd,h]
theorem uk{v:List Int}{x:Int}:x∈nz v ↔ x∈v/\x≠0:=by simp [nz]
theorem getD_mem{v:List Int}{i:Nat}(h:i<v.length):v.getD i 0∈v:=by simp [List.getD,_e h]
theorem wa{v:List Int}(h:∀ x∈v,0<=x)(i:Nat):0<=v.getD i 0:=by
 by_cases hi:i<v.length;·exact h _ (getD_mem hi)
 ·simp [List.getD,_aZ (Nat.not_lt.mp hi)]
theorem z5L{v:List Int}{x:Int}(h:x∈v):v.idxOf x<v.length/\v.getD (v.idxOf x) 0=x:=by
 have hl:=List.idxOf_lt_length_of_mem h;exact ⟨hl,by simp [List.getD,_e hl,_cy hl]⟩
theorem Lot.ne{n:Nat}{v:List Int}(h:Lot n v):v≠[]:=fun z=>by
 obtain ⟨x,hx,_⟩:=h.pos;rw [z] at hx;simp at hx
theorem Lot.nzne{n:Nat}{v:List Int}(h:Lot n v):nz v≠[]:=fun z=>by
 obtain ⟨x,hx,h0⟩:=h.pos;have:x∈nz v:=uk.mpr ⟨hx,by omega⟩;rw [z] at this;simp at this
theorem z79{v:List Int}(h:nz v≠[]):lp v<v.length/\v.getD (lp v) 0=minL (nz v)/\minL (nz v)≠0:=by
 have m:=uk.mp (minL_mem h);have:=z5L m.1;exact ⟨this.1,this.2,m.2⟩
theorem z7a{v:List Int}(h:v≠[]):gp v<v.length/\v.getD (gp v) 0=maxL v:=z5L (maxL_mem h)
theorem others_eq{v:List Int}(h:v≠[]):others v=v.set (gp v) 0:=by
 have:=(z7a h).1;unfold others;rw [_bJ,_f this];simp
theorem wG{v:List Int}(h:v≠[])(i:Nat):(others v).getD i 0=if i=gp v then 0 else v.getD i 0:=by
 have hg:=(z7a h).1;rw [others_eq h];by_cases e:i=gp v
 ·subst e;simp [List.getD,hg]
 ·simp [List.getD,e,_C (_a5 e)]
theorem xm{v:List Int}(h:v≠[]):(others v).length=v.length:=by rw [others_eq h];simp
theorem zbc:∀ {v:List Int}{p:Nat},(nz v).length≠1->v.getD p 0≠0->∃ j,j≠p/\j<v.length/\v.getD j 0≠0:=by
 intro v p he hp;have hpl:p<v.length:=by
  apply _ag;intro z;exact hp (by simp [List.getD,_aZ (Nat.not_lt.mp z)])
 apply _ag;intro hn;apply he;obtain ⟨v1,z,v2,rfl,e1⟩:=zdh hpl;rw [getD_at e1] at hp;have f1:∀ x∈v1,x=0:=fun x hx=>by
  obtain ⟨j,hj,rfl⟩:=_D.mp hx;apply _ag;intro z0;exact hn ⟨j,by omega,by simp;omega,by simpa [List.getD,_o hj,_e hj] using z0⟩
 have f2:∀ x∈v2,x=0:=fun x hx=>by
  obtain ⟨j,hj,rfl⟩:=_D.mp hx;apply _ag;intro z0;refine hn ⟨v1.length+1+j,by omega,by simp;omega,?_⟩;have:(v1++z::v2)[v1.length+1+j]? = some v2[j]:=by rw [_T (by omega),show v1.length+1+j-v1.length=j+1 by omega,_m,_e hj]
  rw [List.getD,this];simpa using z0
 have g1:v1.filter (fun x=>decide (x≠0))=[]:=List.filter_eq_nil_iff.mpr fun x hx=>by simp [f1 x hx]
 have g2:v2.filter (fun x=>decide (x≠0))=[]:=List.filter_eq_nil_iff.mpr fun x hx=>by simp [f2 x hx]
 simp only [nz,_cB,_b5,g1,g2];simp [hp]
theorem z3K{v:List Int}(he:ended v=false):(nz v).length≠1:=by simpa [ended] using he
structure Dl(v:List Int)(b:Nat)(dv:List Nat):Prop where
 lt:b<v.length
 nb:b∉dv
 pos:dv=[]\/0<v.getD b 0
theorem wA{v:List Int}{p i:Nat}:i∈xt v p ↔ i<v.length/\i≠p:=by simp [xt]
theorem z6J{n:Nat}{v:List Int}(h:Lot n v){b:Nat}(hb:b<v.length)(h0:(others v).getD b 0≠0):Dl v b [gp v]/\0<v.getD b 0/\v.getD b 0<=v.getD (gp v) 0:=by
 have hg:=z7a h.ne;rw [wG h.ne] at h0;have ne:b≠gp v:=fun e=>by rw [_f e] at h0;exact h0 rfl
 rw [_q ne] at h0;have p0:0<v.getD b 0:=by have:=wa h.nn b;omega
 refine ⟨⟨hb,by simpa using ne,.inr p0⟩,p0,?_⟩;rw [hg.2];exact maxL_ge _ (getD_mem hb)
theorem uq {n:Nat} {v:List Int} (h:Lot n v) (he:ended v=false):nz (others v)≠[]:=by
 have hg:=z7a h.ne;have mx:0<maxL v:=by
  obtain ⟨x,hx,h0⟩:=h.pos;have:=maxL_ge (xs:=v) x hx;omega
 obtain ⟨j,h1,h2,h3⟩:=zbc (p:=gp v) (z3K he) (by rw [hg.2];omega);intro z;have:v.getD j 0∈nz (others v):=uk.mpr ⟨by
  have:=getD_mem (v:=others v) (i:=j) (by rw [xm h.ne];exact h2);rw [wG h.ne,_q h1] at this;exact this,h3⟩;rw [z] at this;simp at this
theorem jO{n:Nat}{v:List Int}(r:Rl)(h:Lot n v)(he:ended v=false):Dl v (deal r v).1 (deal r v).2:=by cases r with
 | nx=>
  have ne:others v≠[]:=fun z=>by
   have:=xm h.ne;rw [z] at this;exact h.ne (_aN.mp this.symm)
  have a:=z5L (maxL_mem ne);have nn:=uq h he;refine (z6J h (by rw [<- xm h.ne];exact a.1) ?_).1;show (others v).getD ((others v).idxOf (maxL (others v))) 0≠0;rw [a.2];have m:=uk.mp (minL_mem nn);have m1:=maxL_ge _ m.1;have m2:0<=minL (nz (others v)):=by
   obtain ⟨i,hi,e⟩:=_D.mp m.1;have:=wG h.ne i;have e2:(others v).getD i 0=minL (nz (others v)):=by simp [List.getD,_e hi,e]
   rw [e2] at this;rw [this];split;·omega
   ·exact wa h.nn i
  omega | le=>
  have a:=z79 (uq h he);refine (z6J h (by rw [<- xm h.ne];exact a.1) ?_).1;show (others v).getD (lp (others v)) 0≠0;rw [a.2.1];exact a.2.2 | al=>
  have a:=z79 h.nzne;refine ⟨a.1,by simp [deal,wA],.inr ?_⟩;show 0<v.getD (lp v) 0;have:=wa h.nn (lp v);have b:=a.2.1;have c:=a.2.2;omega | tu=>
  have l0:0<v.length:=by have:=h.sz;rw [h.len];omega
  refine ⟨l0,?_,?_⟩
  ·show 0∉(if v.getD 0 0=0 then [] else xt v 0);split<;>simp [wA]
  ·show (if v.getD 0 0=0 then [] else xt v 0)=[]\/0<v.getD 0 0;split;·exact .inl rfl
   ·have:=wa h.nn 0;exact .inr (by omega)
theorem xA(v:List Int)(d:Nat×List Nat):(yk v d).length=v.length:=by simp [yk]
theorem z97(v:List Int)(d:Nat×List Nat)(i:Nat):(yk v d).getD i 0=if i<v.length/\i∈d.2 then v.getD i 0 / v.getD d.1 0 else 0:=by
 unfold yk;by_cases hi:i<v.length;·simp [List.getD,hi]
 ·simp [List.getD,hi]
theorem uR{v:List Int}{d:Nat×List Nat}(i:Nat):v.getD i 0-(yk v d).getD i 0*v.getD d.1 0=if i<v.length/\i∈d.2 then v.getD i 0 % v.getD d.1 0 else v.getD i 0:=by
 rw [z97];split
 ·have:=_bW (v.getD i 0) (v.getD d.1 0);have e:=Int.mul_comm (v.getD i 0 / v.getD d.1 0) (v.getD d.1 0);omega
 ·omega
theorem zg5{v:List Int}{d:Nat×List Nat}(hv:∀ x∈v,0<=x)(h:Dl v d.1 d.2):Qs v d.1 (yk v d):=by
 refine ⟨h.lt,xA _ _,?_,fun q hq=>?_,fun i=>?_,?_⟩;·simp [yk,h.lt,h.nb]
 ·obtain ⟨i,hi,rfl⟩:=_D.mp hq;simp only [yk,List.getElem_map,List.getElem_range];split;·exact Int.ediv_nonneg (wa hv _) (wa hv _)
  ·omega
 ·rw [uR];split
  ·rename_i hi;rcases h.pos with z | z;·rw [z] at hi;simp at hi
   ·exact _a4 _ (by omega)
  ·exact wa hv i
 ·rcases h.pos with z | z
  ·refine .inl fun q hq=>?_;obtain ⟨i,hi,rfl⟩:=_D.mp hq;simp [yk,z]
  ·exact .inr z
def bl(n:Nat):Nat:=if n=0 then 0 else bl (n / 2)+1
termination_by n
decreasing_by omega
theorem z6K:bl 0=0:=by rw [bl];simp
theorem z82{n:Nat}(h:n≠0):bl n=bl (n / 2)+1:=by rw [bl,_q h]
theorem zaz:∀ (b a:Nat),a<=b->bl a<=bl b:=by
 intro b;induction b using Nat.strongRecOn with | ind b ih=>
  intro a h;by_cases h0:a=0;·subst h0;rw [z6K];omega
  ·rw [z82 h0,z82 (show b≠0 by omega)];have:=ih (b / 2) (by omega) (a / 2) (by omega);omega
theorem zfR{a b:Nat}(h:2*a<b):bl a<bl b:=by
 rw [z82 (show b≠0 by omega)];have:=zaz (b / 2) a (by omega);omega
theorem zgT:∀ (k n:Nat),n<2 ^ k->bl n<=k
 | 0,n,h=>by simp at h;subst h;rw [z6K];omega | k+1,n,h=>by
  by_cases h0:n=0;·subst h0;rw [z6K];omega
  ·rw [z82 h0];have:=zgT k (n / 2) (by rw [_ds] at h;omega);omega
def wt(v:List Int):Nat:=(v.map fun x=>bl x.toNat).sum
theorem zh7:∀ {u v:List Int},u.length=v.length->(∀ i,bl (u.getD i 0).toNat<=bl (v.getD i 0).toNat)->wt u<=wt v/\((∃ i,bl (u.getD i 0).toNat<bl (v.getD i 0).toNat)->wt u<wt v)
 | [],[],_,_=>⟨by simp,fun ⟨i,h⟩=>by simp at h⟩ | a::u,b::v,hl,h=>by
  have ih:=zh7 (u:=u) (v:=v) (by simpa using hl) fun i=>by simpa using h (i+1)
  have h0:bl a.toNat<=bl b.toNat:=by simpa using h 0
  simp only [wt,_s,List.sum_cons] at ih ⊢;refine ⟨by omega,fun ⟨i,hi⟩=>?_⟩;cases i with
  | zero=>
   have:bl a.toNat<bl b.toNat:=by simpa using hi
   omega | succ i=>
   have:=ih.2 ⟨i,by simpa using hi⟩;omega
 | [],_::_,h,_=>by simp at h | _::_,[],h,_=>by simp at h
theorem uv{v qs:List Int}{b:Nat}(h:qs.length=v.length)(i:Nat):(left v qs b).getD i 0=v.getD i 0-qs.getD i 0*v.getD b 0:=by
 unfold left;by_cases hi:i<v.length
 ·have h2:i<qs.length:=by omega
  simp [List.getD,List.getElem?_zipWith,_e hi,_e h2]
 ·have h2:¬ i<qs.length:=by omega
  simp [List.getD,List.getElem?_zipWith,_aZ (Nat.not_lt.mp hi),_aZ (Nat.not_lt.mp h2)]
theorem z4d{u v:List Int}(hl:u.length=v.length)(h:∀ i,u.getD i 0=v.getD i 0):u=v:=by
 refine _aI hl fun i h1 h2=>?_;have:=h i;simpa [List.getD,_e h1,_e h2] using this
theorem zdt{a b:Int}(h0:0<b)(h:b<=a):2*(a % b)<a:=by
 have h1:=_bW a b;have h2:=_bi a h0;have h3:=_a4 a (show b≠0 by omega);have h4:1<=a / b:=by
  have:=Int.ediv_le_ediv h0 h;rwa [Int.ediv_self (by omega)] at this
 have h5:b*1<=b*(a / b):=Int.mul_le_mul_of_nonneg_left h4 (by omega);omega
theorem z9O{a b:Int}(ha:0<=a)(h0:0<b):a % b<=a:=by
 have h1:=_bW a b;have h2:0<=a / b:=Int.ediv_nonneg ha (by omega);have h3:0<=b*(a / b):=Int.mul_nonneg (by omega) h2;omega
theorem zgj {v:List Int} {d:Nat×List Nat} (hv:∀ x∈v,0<=x) (h:Dl v d.1 d.2):wt (left v (yk v d) d.1)<=wt v/\((∃ i,i<v.length/\i∈d.2/\v.getD d.1 0<=v.getD i 0)->wt (left v (yk v d) d.1)<wt v):=by
 have hl:=xA v d;have key:∀ i,(left v (yk v d) d.1).getD i 0=if i<v.length/\i∈d.2 then v.getD i 0 % v.getD d.1 0 else v.getD i 0:=fun i=>by rw [uv hl,uR]
 have p:∀ i,i<v.length/\i∈d.2->0<v.getD d.1 0:=fun i hi=>by
  rcases h.pos with z | z;·rw [z] at hi;simp at hi
  ·exact z
 have w:=zh7 (u:=left v (yk v d) d.1) (v:=v) (vf hl) fun i=>by
  rw [key];split
  ·rename_i hi;have:=z9O (wa hv i) (p i hi);exact zaz _ _ (by omega)
  ·exact _g _
 refine ⟨w.1,fun ⟨i,h1,h2,h3⟩=>w.2 ⟨i,?_⟩⟩;rw [key,_f ⟨h1,h2⟩];have h0:=p i ⟨h1,h2⟩;have:=zdt h0 h3;have:=_a4 (v.getD i 0) (show v.getD d.1 0≠0 by omega);exact zfR (by omega)
theorem zej(v:List Int):wt (rot v)=wt v:=by cases v with
 | nil=>rfl | cons a v=>simp [rot,wt];omega
theorem z8V{a b:List Int}(h:∀ x,x∈a ↔ x∈b)(ha:a≠[]):minL a=minL b:=by
 have hb:b≠[]:=fun z=>by
  have:=(h _).mp (minL_mem ha);rw [z] at this;simp at this
 have h1:=minL_le (xs:=b) _ ((h _).mp (minL_mem ha));have h2:=minL_le (xs:=a) _ ((h _).mpr (minL_mem hb));omega
theorem zhN{v:List Int}(h:nz v≠[])(h0:v.getD 0 0≠minL (nz v)):lp (rot v)<lp v:=by cases v with
 | nil=>simp [nz] at h | cons a t=>
  have e:minL (nz (rot (a::t)))=minL (nz (a::t)):=(z8V (fun x=>by rw [uk,uk,zb8]) h).symm;have m:=(uk.mp (minL_mem h)).1;have ha:a≠minL (nz (a::t)):=by simpa using h0
  unfold lp;rw [e];generalize minL (nz (a::t))=m' at *;have mt:m'∈t:=(_z.mp m).resolve_left fun z=>ha z.symm;show List.idxOf m' (t++[a])<_;rw [List.idxOf_append,_f mt,List.idxOf_cons];rw [show (a==m')=false from by simpa using ha];simp
def mu(r:Rl)(v:List Int):Nat:=5*wt v+(if r=.tu then lp v else 0)
theorem Lot.step{n:Nat}{v:List Int}(r:Rl)(h:Lot n v)(he:ended v=false):Lot n (stp r v):=by
 have dl:=jO r h he;have q:=zg5 h.nn dl;refine ⟨h.sz,by rw [stp,zgy,vf q.len,h.len],fun x hx=>zfo q x (z7b.mp hx),?_⟩;have fin:∀ x∈left v (yk v (deal r v)) (deal r v).1,0<x->∃ x∈stp r v,0<x:=fun x hx h0=>⟨x,z7b.mpr hx,h0⟩;rcases dl.pos with z | z
 ·obtain ⟨x,hx,h0⟩:=h.pos;refine fin x ?_ h0;have:left v (yk v (deal r v)) (deal r v).1=v:=z4d (vf q.len) fun i=>by rw [uv q.len,uR,z];simp
  rw [this];exact hx
 ·refine fin (v.getD (deal r v).1 0) ?_ z;have:(left v (yk v (deal r v)) (deal r v).1).getD (deal r v).1 0=v.getD (deal r v).1 0:=by rw [uv q.len,uR,_q (fun w=>dl.nb w.2)]
  rw [<- this];exact getD_mem (by rw [vf q.len];exact dl.lt)
theorem zgP{n:Nat}{v:List Int}(h:Lot n v):lp v<4:=by
 have:=(z79 h.nzne).1;have:=h.len;have:=h.sz;omega
theorem z3Z{n:Nat}{v:List Int}(r:Rl)(h:Lot n v)(he:ended v=false):mu r (stp r v)<mu r v:=by
 have dl:=jO r h he;have w:=zgj h.nn dl;have mn:∀ j,j<v.length->v.getD j 0≠0->minL (nz v)<=v.getD j 0:=fun j hj h0=>minL_le _ (uk.mpr ⟨getD_mem hj,h0⟩);have ge:∀ {b:Nat},b<v.length->(others v).getD b 0≠0->v.getD b 0<=v.getD (gp v) 0:=fun hb h0=>(z6J h hb h0).2.2;cases r with
 | nx=>
  have g:=z7a h.ne;have:wt (stp .nx v)<wt v:=by
   rw [stp,z3u (by decide)];refine w.2 ⟨gp v,g.1,by simp [deal],?_⟩;rw [g.2];exact maxL_ge _ (getD_mem dl.lt)
  simp only [mu];rw [_q (by decide),_q (by decide)];omega | le=>
  have g:=z7a h.ne;have:wt (stp .le v)<wt v:=by
   rw [stp,z3u (by decide)];refine w.2 ⟨gp v,g.1,by simp [deal],?_⟩;rw [g.2];exact maxL_ge _ (getD_mem dl.lt)
  simp only [mu];rw [_q (by decide),_q (by decide)];omega | al=>
  have l:=z79 h.nzne;obtain ⟨j,h1,h2,h3⟩:=zbc (p:=lp v) (z3K he) (by rw [l.2.1];exact l.2.2);have:wt (stp .al v)<wt v:=by
   rw [stp,z3u (by decide)];refine w.2 ⟨j,h2,by simp [deal,wA,h1,h2],?_⟩;show v.getD (lp v) 0<=_;rw [l.2.1];exact mn j h2 h3
  simp only [mu];rw [_q (by decide),_q (by decide)];omega | tu=>
  simp only [mu];rw [_f trivial,_f trivial];have st:Lot n (stp .tu v):=h.step .tu he;have l4:=zgP st;have same:left v (yk v (deal .tu v)) (deal .tu v).1=v->v.getD 0 0≠minL (nz v)->5*wt (stp .tu v)+lp (stp .tu v)<5*wt v+lp v:=fun e h0=>by
   have e2:stp .tu v=rot v:=by rw [stp,z54,e]
   have:=zhN h.nzne h0;rw [e2,zej];omega
  by_cases z:v.getD 0 0=0
  ·refine same (z4d (vf (xA _ _)) fun i=>?_) fun q=>?_
   ·rw [uv (xA _ _),uR];rw [show (deal .tu v).2=[] from by show (if v.getD 0 0=0 then [] else xt v 0)=[];rw [_f z]];simp
   ·exact (z79 h.nzne).2.2 (by rw [<- q,z])
  ·by_cases ex:∃ i,i<v.length/\i≠0/\v.getD 0 0<=v.getD i 0
   ·obtain ⟨i,h1,h2,h3⟩:=ex;have:wt (stp .tu v)<wt v:=by
     rw [stp,z54,zej];refine w.2 ⟨i,h1,?_,h3⟩;show i∈(if v.getD 0 0=0 then [] else xt v 0);rw [_q z];exact wA.mpr ⟨h1,h2⟩
    omega
   ·have nn0:=wa h.nn 0;refine same (z4d (vf (xA _ _)) fun i=>?_) fun q=>?_
    ·rw [uv (xA _ _),uR];split
     ·rename_i hi;have i0:i≠0:=by
       have:=hi.2;simp only [deal,_q z,wA] at this;exact this.2
      have:¬ v.getD 0 0<=v.getD i 0:=fun w=>ex ⟨i,hi.1,i0,w⟩;show v.getD i 0 % v.getD 0 0=_;exact Int.emod_eq_of_lt (wa h.nn i) (by omega)
     ·rfl
    ·obtain ⟨j,h1,h2,h3⟩:=zbc (p:=0) (z3K he) z;have:=mn j h2 h3;exact ex ⟨j,h2,h1,by omega⟩
inductive Run(r:Rl):List Int->List (List Int)->Prop | done {v:List Int}:ended v=true->Run r v [v] | step {v:List Int}{ls:List (List Int)}:ended v=false->Run r (stp r v) ls->Run r v (v::ls)
theorem zep{n:Nat}{r:Rl}:∀ (k:Nat)(v:List Int),Lot n v->mu r v<=k->∃ ls,Run r v ls/\ls.length<=k+1
 | k,v,h,hk=>by cases he:ended v with
  | true=>exact ⟨[v],.done he,by simp⟩ | false=>
   have lt:=z3Z r h he;match k,hk with
   | 0,hk=>omega | k+1,hk=>
    obtain ⟨ls,h1,h2⟩:=zep (r:=r) k (stp r v) (h.step r he) (by omega);exact ⟨v::ls,.step he h1,by simp;omega⟩
theorem zid{m:Nat}:∀ {v:List Int},(∀ x∈v,x.toNat<2 ^ m)->wt v<=v.length*m
 | [],_=>by simp [wt] | a::v,h=>by
  have ih:=zid (v:=v) fun x hx=>h x (by simp [hx]);have:=zgT m a.toNat (h a (by simp));simp only [wt,_s,List.sum_cons,_i,Nat.succ_mul] at ih ⊢;omega
theorem zgN{n m:Nat}{v:List Int}{r:Rl}(h:Lot n v)(hb:∀ x∈v,x.toNat<2 ^ m):mu r v<=20*m+3:=by
 have w:=zid hb;have l:=zgP h;have:v.length*m<=4*m:=_cb m (by have:=h.len;have:=h.sz;omega);unfold mu;split<;>omega
theorem zeE{n:Nat}{v:List Int}{B:Int}(r:Rl)(h:Lot n v)(he:ended v=false)(hb:∀ y∈v,y<=B):∀ y∈stp r v,y<=B:=fun y hy=>by
 have dl:=jO r h he;have q:=zg5 h.nn dl;have hy:=z7b.mp hy;obtain ⟨i,hi,rfl⟩:=_D.mp hy;have e:(left v (yk v (deal r v)) (deal r v).1)[i]=(left v (yk v (deal r v)) (deal r v).1).getD i 0:=by simp [List.getD,_e hi]
 have hi':i<v.length:=by rw [<- vf (b:=(deal r v).1) q.len];exact hi
 have b:=hb _ (getD_mem hi');rw [e,uv q.len,uR];split
 ·rename_i w;rcases dl.pos with z | z;·rw [z] at w;simp at w
  ·have:=z9O (wa h.nn i) z;omega
 ·exact b
section
variable {k:Int}(hk:0<k)
include hk
end
def vR(r:Rl)(ls:List (List Int)):List Tb:=ls.dropLast.map (z7w r)
theorem Run.ne{r:Rl}{v:List Int}{ls:List (List Int)}(R:Run r v ls):ls≠[]:=by cases R<;>simp
theorem Run.tabs_cons{r:Rl}{v:List Int}{ls:List (List Int)}(h:Run r (stp r v) ls):vR r (v::ls)=z7w r v::vR r ls:=by
 obtain ⟨a,t,rfl⟩:=List.exists_cons_of_ne_nil h.ne;simp [vR]
open Dd (lexN)
theorem z42:∀ a:List Int,lexN a a=false
 | []=>rfl | x::a=>by simp [lexN,z42 a]
theorem z8F:∀ {a b:List Int},a≠b->lexN b a=!lexN a b
 | [],[],h=>absurd rfl h | [],_::_,_=>rfl | _::_,[],_=>rfl | x::a,y::b,h=>by
  by_cases e:x=y
  ·subst e;have:a≠b:=fun z=>h (by rw [z]);simp only [lexN,_H];exact z8F this
  ·have e':¬ y=x:=fun z=>e z.symm;simp only [lexN,e,e',_ak];by_cases l:x<y;·simp [l];omega
   ·simp [l];omega
theorem zat:∀ {a b c:List Int},lexN a b=true->lexN b c=true->lexN a c=true
 | [],[],_,h,_=>by simp [lexN] at h | [],_::_,[],_,h=>by simp [lexN] at h | [],_::_,_::_,_,_=>rfl | _::_,[],_,h,_=>by simp [lexN] at h | _::_,_::_,[],_,h=>by simp [lexN] at h | x::a,y::b,z::c,h1,h2=>by
  simp only [lexN] at h1 h2 ⊢;by_cases e1:x=y
  ·subst e1;by_cases e2:x=z
   ·subst e2;simp only [_H] at h1 h2 ⊢;exact zat h1 h2
   ·simp only [e2,_ak] at h2 ⊢;exact h2
  ·simp only [e1,_ak,_at] at h1;by_cases e2:y=z
   ·subst e2;simp only [e1,_ak,_at];exact h1
   ·simp only [e2,_ak,_at] at h2;have e3:¬ x=z:=by omega
    simp only [e3,_ak,_at];omega
theorem z1R:∀ {a b:List Int}{x y:Int},a.length=b.length->(lexN a b=true\/(a=b/\x<y))->lexN (a++[x]) (b++[y])=true
 | [],[],x,y,_,h=>by
  rcases h with h | ⟨_,h⟩;·simp [lexN] at h
  ·have:¬ x=y:=by omega
   simp [lexN,this,h] | [],_::_,_,_,h,_=>by simp at h | _::_,[],_,_,h,_=>by simp at h | u::a,w::b,x,y,hl,h=>by
  simp only [_bs,lexN];by_cases e:u=w
  ·subst e;simp only [_H];refine z1R (by simpa using hl) ?_;rcases h with h | ⟨h1,h2⟩;·exact .inl (by simpa [lexN] using h)
   ·exact .inr ⟨by simpa using h1,h2⟩
  ·simp only [e,_ak,_at];rcases h with h | ⟨h1,h2⟩;·simpa [lexN,e] using h
   ·simp at h1;exact absurd h1.1 e
abbrev Up(L:List (List Int)):Prop:=L.Pairwise fun a b=>lexN a b=true
theorem Up.nodup{L:List (List Int)}(h:Up L):L.Nodup:=h.imp fun {a b} q z=>by rw [z,z42] at q;cases q
theorem zao{α:Type}{a b:List α}{i:Nat}{d:α}(h:i<a.length):(a++b).getD i d=a.getD i d:=by simp [_k,_o h]
theorem zbS{α:Type}{a b:List α}{i:Nat}{d:α}(h:a.length<=i):(a++b).getD i d=b.getD (i-a.length) d:=by simp [_k,_T h]
def z3k(F:List (List Int))(c:List Int):List (List Int):=F.flatMap fun a=>c.map fun g=>a++[g]
def qP(cs:List (List Int)):List (List Int):=cs.foldl z3k [[]]
theorem jc(cs:List (List Int))(c:List Int):qP (cs++[c])=z3k (qP cs) c:=by simp [qP]
theorem snoc_ind{α:Type}{P:List α->Prop}(h0:P [])(h1:∀ l x,P l->P (l++[x]))(l:List α):P l:=by
 have:∀ n (l:List α),l.length=n->P l:=by
  intro n;induction n with
  | zero=>intro l hl;rw [_aN.mp hl];exact h0 | succ n ih=>
   intro l hl;have ne:l≠[]:=fun z=>by rw [z] at hl;simp at hl
   rw [<- List.dropLast_concat_getLast ne];exact h1 _ _ (ih _ (by simp [hl]))
 exact this _ l rfl
theorem z5M(cs:List (List Int)):∀ v:List Int,v∈qP cs ↔ v.length=cs.length/\∀ i,i<cs.length->v.getD i 0∈cs.getD i []:=by
 refine snoc_ind (P:=fun cs=>∀ v:List Int,v∈qP cs ↔ v.length=cs.length/\∀ i,i<cs.length->v.getD i 0∈cs.getD i []) ?_ ?_ cs
 ·intro v;simp [qP]
 ·intro cs c ih v;rw [jc];simp only [z3k,List.mem_flatMap,_F];constructor
  ·rintro ⟨a,ha,g,hg,rfl⟩;obtain ⟨l,h⟩:=(ih a).mp ha;refine ⟨by simp [l],fun i hi=>?_⟩;by_cases q:i<cs.length
   ·have:=h i q;rw [zao (a:=a) (by omega),zao q];exact this
   ·have e:i=cs.length:=by simp at hi;omega
    subst e;rw [zbS (a:=a) (by omega),zbS (a:=cs) (by omega)];simp [l,hg]
  ·rintro ⟨l,h⟩;have ne:v≠[]:=fun z=>by rw [z] at l;simp at l
   refine ⟨v.dropLast,(ih _).mpr ⟨by simp [l],fun i hi=>?_⟩,v.getLast ne,?_,List.dropLast_concat_getLast ne⟩
   ·have:=h i (by simp;omega);rw [zao hi] at this;have e:v.dropLast.getD i 0=v.getD i 0:=by
     have l':v.length=cs.length+1:=by simpa using l
     have h1:i<v.length:=by omega
     simp [_k,List.getElem?_dropLast,l',hi,_e h1]
    rw [e];exact this
   ·have:=h cs.length (by simp);rw [zbS (_g _)] at this;have e:v.getD cs.length 0=v.getLast ne:=by
     rw [List.getLast_eq_getElem];simp at l;simp [_k,l]
    rw [e] at this;simpa using this
theorem zcw(cs:List (List Int)):(∀ c∈cs,c.Pairwise (· < ·))->Up (qP cs):=by
 refine snoc_ind (P:=fun cs=>(∀ c∈cs,c.Pairwise (· < ·))->Up (qP cs)) (fun _=>by simp [qP,Up]) ?_ cs;intro cs c ih h;have ih:=ih fun c hc=>h c (by simp [hc]);have hc:=h c (by simp);have hl:=fun v hv=>((z5M cs v).mp hv).1;rw [jc];unfold z3k Up;rw [List.pairwise_flatMap];refine ⟨fun a ha=>?_,?_⟩
 ·rw [_cU];exact hc.imp fun {x y} q=>z1R rfl (.inr ⟨rfl,q⟩)
 ·refine List.Pairwise.imp_of_mem (fun {a b} ha hb q=>?_) ih;intro x hx y hy;obtain ⟨g,_,rfl⟩:=_F.mp hx;obtain ⟨k,_,rfl⟩:=_F.mp hy;exact z1R (by rw [hl a ha,hl b hb]) (.inl q)
theorem zbK(cs:List (List Int)){k:Nat}:(∀ c∈cs,c.length<=k)->(qP cs).length<=k ^ cs.length:=by
 refine snoc_ind (P:=fun cs=>(∀ c∈cs,c.length<=k)->(qP cs).length<=k ^ cs.length) (fun _=>by simp [qP]) ?_ cs;intro cs c ih h;have ih:=ih fun c hc=>h c (by simp [hc]);have hc:=h c (by simp);rw [jc];have e:(z3k (qP cs) c).length=(qP cs).length*c.length:=by
  unfold z3k;rw [List.length_flatMap];simp;induction (qP cs) with
  | nil=>simp | cons a l ih=>simp [ih,Nat.add_mul,Nat.add_comm]
 rw [e,_X,List.length_singleton,_ds];exact Nat.mul_le_mul ih hc
end Pm
namespace Pg
open L2 Dd Pm
abbrev iL(ns:List Int):List D:=ns.map D.int
theorem zkS{i:Int}{m:Nat}(h:i.natAbs<2 ^ m)(hm:m<=2000):i.natAbs<BIG:=_r h (_af (by decide) (by omega))
theorem zh4{a b:Int}{m k:Nat}(s:Sto)(ha:a.natAbs<2 ^ m)(hm:m<=2000)(hb:b.natAbs<2 ^ k)(hk:k<=2000):uo (.int a) (.int b) s=.ok (.int (a*b)) s:=by rw [zdR,_f ⟨zkS ha hm,zkS hb hk⟩]
theorem z86{a b:Int}(s:Sto)(hb:0<b):zaR (.int a) (.int b) s=.ok (.int (a % b)) s:=by rw [zh2,_f hb]
theorem zcE{xs:List D}(s:Sto)(h:∀ x∈xs,x=.bl true):zcM [.lst xs] s=.ok (.bl true) s:=by
 have e:xs=(xs.map fun _=>true).map D.bl:=by
  rw [_aK];conv=>lhs;rw [<- List.map_id xs]
  exact _bc fun x hx=>h x hx
 have b:bools xs=some (xs.map fun _=>true):=by
  conv=>lhs;rw [e]
  exact z5l _
 simp [zcM,zW,b]
theorem z5R{ns:List Int}(s:Sto)(h:ns≠[]):vE [.tup (iL ns)] s=.ok (.int (maxL ns)) s:=by cases ns with
 | nil=>exact absurd rfl h | cons n ns=>simp only [vE,zW,_J,uz]
theorem zhF{ns:List Int}(s:Sto)(h:ns≠[]):z3X [.tup (iL ns)] s=.ok (.int (minL ns)) s:=by cases ns with
 | nil=>exact absurd rfl h | cons n ns=>simp only [z3X,zW,_J,uz]
theorem zdT{ns:List Int}(s:Sto)(h:ns≠[]):vE [.lst (iL ns)] s=.ok (.int (maxL ns)) s:=by cases ns with
 | nil=>exact absurd rfl h | cons n ns=>simp only [vE,zW,_J,uz]
theorem jh(i:Int)(s:Sto):zV [.int i] s=.ok (.bl true) s:=by simp [zV,Mof,jP,zt,gIs,tyD,isT]
theorem z9d(xs:List D)(s:Sto)(h:2<=xs.length/\xs.length<=4):vm [.tup xs] s=.ok (.bl true) s:=by
 have h1:(2:Int)<=xs.length:=by omega
 have h2:(xs.length:Int)<=4:=by omega
 simp [vm,Mof,z20,zt,gIs,tyD,isT,ue,zW,h1,h2]
theorem z5d (ns:List Int) (s:Sto) (h:ns.length<=1000):xO [.tup (iL ns),.int ns.length] s=.ok (.bl true) s:=by
 simp [xO,Mof,kn,zt,gIs,tyD,isT,ue,zW];rw [z5r (fun _=>D.bl true) (iL ns) [] (by intro x hx;obtain ⟨n,_,rfl⟩:=_F.mp hx;simp [jh]) (by simp [cap];omega)];simp only [Rb,_aQ];rw [zcE s (by intro x hx;obtain ⟨_,_,rfl⟩:=_F.mp hx;rfl)];simp
abbrev rD(r:List Int):D:=.tup (iL r)
abbrev tD(T:Tb):D:=.tup (T.map rD)
theorem zhR{xs:List D}{j:Nat}{d:D}(s:Sto)(h:xs[j]? = some d):dIx (.tup xs) (.int j) s=.ok d s:=by
 have hj:j<xs.length:=(_b.mp h).1;have e:ixN xs.length (j:Int)=some j:=by
  unfold ixN;rw [_f (by omega),_f (by omega)];simp
 simp only [dIx,zW,atI,e,_J,h]
theorem ze0{n:Nat}{ar:FA}{Z:Ev}{s s1:Sto}(hn:n<=1000)(h:ar Z s=.ok [.int n] s1):z0x ar Z s=.ok (wr n,[]) s1:=by
 have c62:-(2 ^ 62)<=(n:Int)/\(n:Int)<2 ^ 62:=by omega
 rw [zeh,h,Rb];simp only;rw [_f c62,_bo]
theorem z6T(xs:List D)(i:Nat)(s:Sto):dSl (.tup xs) none (some (i:Int)) s=.ok (.tup (xs.take i)) s:=by
 have e:Dd.cutD xs none (some (i:Int))=xs.take i:=by
  unfold Dd.cutD;rw [HT.z85,HT.zaH];simp [List.take_eq_take_min]
 simp only [dSl,e]
theorem z4M(xs:List D)(i:Nat)(s:Sto):dSl (.tup xs) (some (i:Int)) none s=.ok (.tup (xs.drop i)) s:=by
 have e:Dd.cutD xs (some (i:Int)) none=xs.drop i:=by
  unfold Dd.cutD;rw [HT.z85,HT.zaH];by_cases h:i<=xs.length
  ·rw [Nat.min_eq_left h];exact List.take_of_length_le (by simp)
  ·rw [Nat.min_eq_right (by omega)];simp [List.drop_of_length_le (show xs.length<=i by omega)]
 simp only [dSl,e]
theorem z5z {r:List Int} {j:Nat} (s:Sto) (h:j<r.length):dIx (rD r) (.int (j:Int)) s=.ok (.int (r.getD j 0)) s:=zhR (xs:=iL r) (j:=j) (d:=.int (r.getD j 0)) s (by simp [_P,_e h,List.getD])
theorem uu{α:Type}{all:List D}{s:Sto}{body:D->Sto->R (Option D)}(g f:α->D)(p:α->Bool):∀ (l:List α)(acc:List D),(∀ a∈l,body (g a) s=.ok (if p a=true then some (f a) else none) s)->acc.length+l.length<=cap->wm [] all body (l.map g) acc s=.ok (acc++(l.filter p).map f) s
 | [],acc,_,_=>by simp [wm,okG] | x::xs,acc,hb,hl=>by
  have og:okG [] all s:=by intro p hp;simp at hp
  rw [_s,wm,_f og,hb x (by simp)];cases hp:p x with
  | true=>
   have ih:=uu (all:=all) g f p xs (acc++[f x]) (fun y hy=>hb y (by simp [hy])) (by simp at hl ⊢;omega);have hc:acc.length<cap:=by simp at hl;omega
   simp [hc,ih,hp] | false=>
   have ih:=uu (all:=all) g f p xs acc (fun y hy=>hb y (by simp [hy])) (by simp at hl ⊢;omega);simp [ih,hp]
theorem wL{α:Type}{fi:FI}{mp:List (Option Nat)}{fg:FG}{ft:FT}{fe:FE}{Z:Ev}{s:Sto}(g f:α->D)(p:α->Bool)(ev:α->Ev)(l:List α) (hi:fi Z s=.ok (l.map g,[]) s)(hg:∀ a∈l,fg (g a) (zU mp Z) s=.ok (ev a) s)(ht:∀ a∈l,ft (ev a) s=.ok (p a) s)(he:∀ a∈l,p a=true->fe (ev a) s=.ok (f a) s)(hl:l.length<=cap): zD fi mp fg ft fe Z s=.ok (.lst ((l.filter p).map f)) s:=by
 rw [kO,z0p,hi,Rb];rw [uu g f p l [] (by
  intro a ha;simp only [hg a ha,ht a ha,Rb];cases hp:p a with
  | true=>simp [he a ha hp] | false=>simp) (by simpa using hl)];rfl
theorem comp_map{α:Type}{fi:FI}{mp:List (Option Nat)}{fg:FG}{fe:FE}{Z:Ev}{s:Sto}(g f:α->D)(ev:α->Ev)(l:List α) (hi:fi Z s=.ok (l.map g,[]) s)(hg:∀ a∈l,fg (g a) (zU mp Z) s=.ok (ev a) s)(he:∀ a∈l,fe (ev a) s=.ok (f a) s)(hl:l.length<=cap): zD fi mp fg qj fe Z s=.ok (.lst (l.map f)) s:=by
 have:=wL (ft:=qj) g f (fun _=>true) ev l hi hg (fun a _=>rfl) (fun a ha _=>he a ha) hl;rw [show l.filter (fun _=>true)=l from _bv.mpr (by simp)] at this;exact this
theorem z8z{f:FE}{Z:Ev}{s:Sto}{xs:List D}(h:f Z s=.ok (.tup xs) s):xb f Z s=.ok (xs,[]) s:=by simp [h]
theorem ve{f:FE}{Z:Ev}{s:Sto}{xs:List D}(h:f Z s=.ok (.lst xs) s):xb f Z s=.ok (xs,[]) s:=by simp [h]
structure LotB(n m:Nat)(v:List Int):Prop extends Lot n v where bd:∀ x∈v,x<2 ^ m
theorem LotB.abs{n m:Nat}{v:List Int}(h:LotB n m v):∀ x∈v,x.natAbs<2 ^ m:=fun x hx=>by
 have h1:=h.bd x hx;have h2:=h.nn x hx;have e:(x.natAbs:Int)=x:=_cc h2;have:(x.natAbs:Int)<((2 ^ m:Nat):Int):=by rw [e];simpa using h1
 omega
theorem LotB.toN{n m:Nat}{v:List Int}(h:LotB n m v):∀ x∈v,x.toNat<2 ^ m:=fun x hx=>by
 have h1:=h.abs x hx;have h2:=h.nn x hx;omega
theorem _root_.Pm.Lot.le4{n:Nat}{v:List Int}(h:Lot n v):v.length<=4/\2<=v.length:=by have:=h.len;have:=h.sz;omega
theorem zd4{n:Nat}{v:List Int}(h:Lot n v)(s:Sto):uP [rD v] s=.ok (.bl true) s:=by
 have l4:=h.le4;have h1:=z9d (iL v) s (by simp;omega);have h2:=z5d v s (by omega);have g1:=z5R s h.ne;have g2:=zhF s h.ne;have mn:0<=minL v:=h.nn _ (minL_mem h.ne);have mx:0<maxL v:=by obtain ⟨x,hx,h0⟩:=h.pos;have:=maxL_ge (xs:=v) x hx;omega
 have gl:ue [rD v] s=.ok (.int v.length) s:=by simp [ue,zW]
 have key:∀ d:D,vm [d] s=.ok (.bl true) s->ue [d] s=.ok (.int v.length) s->xO [d,.int v.length] s=.ok (.bl true) s->vE [d] s=.ok (.int (maxL v)) s->z3X [d] s=.ok (.int (minL v)) s->uP [d] s=.ok (.bl true) s:=fun d a1 a2 a3 a4 a5=>by simp [uP,Mof,z5j,zt,a1,a2,a3,a4,a5,mn,mx]
 exact key _ h1 gl h2 g1 g2
theorem z3v{n:Nat}{v:List Int}(h:Lot n v)(s:Sto):yJ [rD v] s=.ok .non s:=by
 have h1:=zd4 h s;have key:∀ d:D,uP [d] s=.ok (.bl true) s->yJ [d] s=.ok .non s:=fun d a1=>by simp [yJ,Mof,z2k,zt,a1]
 exact key _ h1
theorem nzC{v:List Int}{f:FE}{Z:Ev}{s:Sto}{mp:List (Option Nat)}(hf:f Z s=.ok (rD v) s)(hl:v.length<=4):zD (xb f) [none] (wo 0) (tOf (eOp dNe (zc 0) (eC (.int 0)))) (zc 0) Z s=.ok (.lst (iL (nz v))) s:=by
 rw [wL D.int D.int (fun x=>decide (x≠0)) (fun x=>[some (.int x)]) v (z8z hf) (fun a _=>by simp) (fun a _=>by simp) (fun a _ _=>by simp) (by simp [cap];omega)];rfl
theorem z1H {n:Nat} {v:List Int} (h:Lot n v) (s:Sto):yq [rD v] s=.ok (.bl (ended v)) s:=by
 have h1:=z3v h s;have key:∀ d:D,yJ [d] s=.ok .non s->zD (xb (zc 0)) [none] (wo 0) (tOf (eOp dNe (zc 0) (eC (.int 0)))) (zc 0) [some d] s=.ok (.lst (iL (nz v))) s->yq [d] s=.ok (.bl (ended v)) s:=fun d a1 a2=>by
  have st:zt ["lot"] [d]=[some d]:=rfl;simp only [yq,Mof,z0A,st,_i,_u,_H];rw [zh (Z':=[some d]) (s':=s) (by simp [a1])];simp only [kF,xT,xN,wE,zu,zF,z1u,a2,Rb];simp only [ue,zW,Rb,z7e,_B];have:decide (((nz v).length:Int)=1)=ended v:=by
   unfold ended;by_cases e:(nz v).length=1;·simp [e]
   ·have:¬ ((nz v).length:Int)=1:=by omega
    simp [e,this]
  rw [this]
 exact key _ h1 (nzC (mp:=[]) (by simp) h.le4.1)
end Pg
namespace Pm
open L2 (maxL minL maxL_ge maxL_mem minL_le minL_mem n3)
end Pm
namespace Pg
open L2 Dd Pm
def nmR:Rl->Str | .nx=>"next" | .le=>"least" | .al=>"all" | .tu=>"turn"
theorem zab{fo fv:FE}{Z:Ev}{s:Sto}{v:List Int}{k:Int}(h1:fo Z s=.ok (rD v) s)(h2:fv Z s=.ok (.int k) s)(hk:k∈v):zdw fo fv Z s=.ok (.int (v.idxOf k:Nat)) s:=by simp only [zgV,h1,h2,Rb,uz,_f hk]
theorem z3z {n:Nat} {v:List Int} (h:Lot n v) (s:Sto):zp [rD v] s=.ok (.tup [.int (gp v:Nat),rD (others v)]) s:=by
 have l4:=h.le4;have g1:=z5R s h.ne;have key:∀ d:D,d=rD v->zp [d] s=.ok (.tup [.int (gp v:Nat),rD (others v)]) s:=fun d hd=>by
  have st:zt ["lot","at"] [d]=[some d,none]:=rfl;have gm:vE [d] s=.ok (.int (maxL v)) s:=by rw [hd];exact g1
  have i1:zdw (zc 0) (zg vE (za (zc 0) zi)) [some d,none] s=.ok (.int (gp v:Nat)) s:=zab (by simp [hd]) (by simp [gm]) (maxL_mem h.ne);simp only [zp,Mof,wu,st,_i,_u,_H];rw [zh (Z':=[some d,some (.int (gp v:Nat))]) (s':=s) (by rw [xX,zK,i1];simp)];have e1:=z6T (iL v) (gp v) s;have e2:=z4M (iL v) (gp v+1) s;rw [show (((gp v+1:Nat):Int))=(gp v:Int)+1 from rfl] at e2;simp only [xZ,xT,vJ,zu,zF,xo,xN,zbM,qJ,z2b,z1u,_n,_m,Rb,z5w,hd,e1,e2];rw [_f (by simp [cap]),Rb,z5B,_f (by simp [cap];omega),Rb,e2,Rb,z5B,_f (by simp [cap];omega),Rb,Rb,Rb,_f (by simp [cap])];simp [others,_c5,_b8]
 exact key _ rfl
theorem kI {v:List Int} (h:nz v≠[]) (hl:v.length<=4) (s:Sto):zR [rD v] s=.ok (.int (lp v:Nat)) s:=by
 have key:∀ d:D,d=rD v->zR [d] s=.ok (.int (lp v:Nat)) s:=fun d hd=>by
  have st:zt ["lot"] [d]=[some d]:=rfl;have c:=nzC (mp:=[]) (f:=zc 0) (Z:=[some d]) (s:=s) (v:=v) (by simp [hd]) hl;have gm:z3X [.lst (iL (nz v))] s=.ok (.int (minL (nz v))) s:=by
   obtain ⟨a,t,e⟩:=List.exists_cons_of_ne_nil h;rw [e];simp only [z3X,zW,_J,iL];rw [uz]
  simp only [zR,Mof,js,st,_i,_u,_H,qL,xT];rw [zab (v:=v) (k:=minL (nz v)) (by simp [hd]) (by rw [wE,zu,c];simp only [Rb,zF,gm]) (uk.mp (minL_mem h)).1];rfl
 exact key _ rfl
abbrev nL(l:List Nat):List D:=l.map fun i=>D.int ((i:Nat):Int)
theorem z69 {v:List Int} (p:Nat) (hl:v.length<=4) (s:Sto):xC [rD v,.int (p:Nat)] s=.ok (.lst (nL (xt v p))) s:=by
 have key:∀ d:D,ue [d] s=.ok (.int v.length) s->xC [d,.int (p:Nat)] s=.ok (.lst (nL (xt v p))) s:=fun d hd=>by
  have st:zt ["lot","place"] [d,.int (p:Nat)]=[some d,some (.int (p:Nat))]:=rfl;have ir:z0x (za (zg ue (za (zc 0) zi)) zi) [some d,some (.int (p:Nat))] s=.ok ((List.range v.length).map fun i=>D.int ((i:Nat):Int),[]) s:=by
   rw [ze0 (n:=v.length) (s1:=s) (by omega) (by simp [hd])];rfl
  simp only [xC,Mof,z3g,st,_i,_u,_H,z1Z,xT];rw [wL (fun i:Nat=>D.int ((i:Nat):Int)) (fun i:Nat=>D.int ((i:Nat):Int)) (fun i=>decide (i≠p)) (fun i=>[some (.int (p:Nat)),some (.int (i:Nat))]) (List.range v.length) ir (fun a _=>by simp) (fun a _=>by
   have:decide ((a:Int)≠(p:Nat))=decide (a≠p):=by
    by_cases e:a=p;·simp [e]
    ·have:¬ (a:Int)=(p:Nat):=by omega
     simp [e,this]
   simp only [qh,xN,xo,_m,_n,Rb,zfm,this]) (fun a _ _=>by simp) (by simp [cap];omega)];rfl
 exact key _ (by simp [ue,zW])
abbrev z2o(d:Nat×List Nat):D:=.tup [.int d.1,.lst (nL d.2)]
theorem z9I {n:Nat} {v:List Int} (h:Lot n v) (s:Sto):wO [rD v] s=.ok (z2o (deal .nx v)) s:=by
 have ne:others v≠[]:=fun z=>by
  have:=xm h.ne;rw [z] at this;exact h.ne (_aN.mp this.symm)
 have g:=z3z h s;have g1:=z5R (ns:=others v) s ne;have key:∀ d e:D,e=rD (others v)->zp [d] s=.ok (.tup [.int (gp v:Nat),e]) s->wO [d] s=.ok (z2o (deal .nx v)) s:=fun d e he hg=>by
  have st:zt ["lot","greatest","others"] [d]=[some d,none,none]:=rfl;have gm:vE [e] s=.ok (.int (maxL (others v))) s:=by rw [he];exact g1
  simp only [wO,Mof,z3m,st,_i,_u,_H];rw [zh (Z':=[some d,some (.int (gp v:Nat)),some e]) (s':=s) (by simp [hg])];have ix:zdw (zc 2) (zg vE (za (zc 2) zi)) [some d,some (.int (gp v:Nat)),some e] s=.ok (.int ((others v).idxOf (maxL (others v)):Nat)) s:=zab (v:=others v) (by simp [he]) (by simp [gm]) (maxL_mem ne);simp only [z2q,xT,vJ,zu,ix,Rb,zF,z29,xo,_n,_m];simp [cap,deal]
 exact key _ _ rfl g
theorem z9p {n:Nat} {v:List Int} (h:Lot n v) (he:ended v=false) (s:Sto):xR [rD v] s=.ok (z2o (deal .le v)) s:=by
 have g:=z3z h s;have lpo:=kI (uq h he) (by rw [xm h.ne];exact h.le4.1) s;have key:∀ d e:D,zR [e] s=.ok (.int (lp (others v):Nat)) s->zp [d] s=.ok (.tup [.int (gp v:Nat),e]) s->xR [d] s=.ok (z2o (deal .le v)) s:=fun d e he hg=>by
  have st:zt ["lot","greatest","others"] [d]=[some d,none,none]:=rfl;simp only [xR,Mof,z2j,st,_i,_u,_H];rw [zh (Z':=[some d,some (.int (gp v:Nat)),some e]) (s':=s) (by simp [hg])];simp [he,cap,deal]
 exact key _ _ lpo g
theorem zd1 {n:Nat} {v:List Int} (h:Lot n v) (s:Sto):vO [rD v] s=.ok (z2o (deal .al v)) s:=by
 have lpo:=kI h.nzne h.le4.1 s;have ab:=z69 (v:=v) (lp v) h.le4.1 s;have key:∀ d:D,zR [d] s=.ok (.int (lp v:Nat)) s->xC [d,.int (lp v:Nat)] s=.ok (.lst (nL (xt v (lp v)))) s->vO [d] s=.ok (z2o (deal .al v)) s:=fun d h1 h2=>by
  have st:zt ["lot","by"] [d]=[some d,none]:=rfl;simp only [vO,Mof,z6d,st,_i,_u,_H];rw [zh (Z':=[some d,some (.int (lp v:Nat))]) (s':=s) (by simp [h1])];simp [h2,cap,deal]
 exact key _ lpo ab
theorem zau {n:Nat} {v:List Int} (h:Lot n v) (s:Sto):wP [rD v] s=.ok (z2o (deal .tu v)) s:=by
 have ab:=z69 (v:=v) 0 h.le4.1 s;have i0:dIx (rD v) (.int 0) s=.ok (.int (v.getD 0 0)) s:=z5z (j:=0) s (by have:=h.le4.2;omega);have key:∀ d:D,dIx d (.int 0) s=.ok (.int (v.getD 0 0)) s->xC [d,.int 0] s=.ok (.lst (nL (xt v 0))) s->wP [d] s=.ok (z2o (deal .tu v)) s:=fun d h1 h2=>by
  have st:zt ["lot"] [d]=[some d]:=rfl;simp only [wP,Mof,z3x,st,_i,_u,_H];by_cases z:v.getD 0 0=0;·rw [zem (d:=z2o (deal .tu v)) (s':=s) (by
    rw [z] at h1;have e:deal .tu v=(0,[]):=by show (0,if v.getD 0 0=0 then [] else xt v 0)=_;rw [_f z]
    rw [e];simp [h1,cap])]
  ·rw [zh (Z':=[some d]) (s':=s) (by
    have:¬ v.getD 0 0=0:=z;generalize v.getD 0 0=y at *;simp [h1,this])];have e:deal .tu v=(0,xt v 0):=by show (0,if v.getD 0 0=0 then [] else xt v 0)=_;rw [_q z]
   rw [e];simp [h2,cap]
 exact key _ i0 ab
theorem zaq(r:Rl)(s:Sto):xu [.str (nmR r)] s=.ok (.bl true) s:=by
 have l:∀ r,(qd.lookup (nmR r)).isSome=true:=fun r=>by cases r<;>decide
 have l:=l r;obtain ⟨y,l⟩:=_ai.mp l;generalize nmR r=x at *;simp [xu,Mof,z3i,zt,gIs,tyD,isT,l]
theorem uU(r:Rl)(s:Sto):yz [.str (nmR r)] s=.ok .non s:=by
 have l:=zaq r s;generalize nmR r=x at *;simp [yz,Mof,z0L,zt,l]
theorem za2{n:Nat}{v:List Int}(r:Rl)(h:Lot n v)(s:Sto):zH [.str (nmR r),rD v] s=.ok .non s:=by
 have h1:=uU r s;have h2:=z3v h s;have key:∀ d e:D,yz [d] s=.ok .non s->yJ [e] s=.ok .non s->zH [d,e] s=.ok .non s:=fun d e a1 a2=>by simp [zH,Mof,wX,zt,a1,a2]
 exact key _ _ h1 h2
theorem z7o{n:Nat}{v:List Int}(r:Rl)(h:Lot n v)(he:ended v=false)(s:Sto):xM [.str (nmR r),rD v] s=.ok .non s:=by
 have h1:=za2 r h s;have h2:=z1H h s;rw [he] at h2;have key:∀ d e:D,zH [d,e] s=.ok .non s->yq [e] s=.ok (.bl false) s->xM [d,e] s=.ok .non s:=fun d e a1 a2=>by simp [xM,Mof,z0S,zt,a1,a2]
 exact key _ _ h1 h2
def dfR:Rl->Str | .nx=>"by_next" | .le=>"by_least" | .al=>"by_all" | .tu=>"by_turn"
def MR:Rl->Mir | .nx=>wO | .le=>xR | .al=>vO | .tu=>wP
theorem zln{n:Nat}{v:List Int}(r:Rl)(h:Lot n v)(he:ended v=false)(s:Sto):MR r [rD v] s=.ok (z2o (deal r v)) s:=by cases r with
 | nx=>exact z9I h s | le=>exact z9p h he s | al=>exact zd1 h s | tu=>exact zau h s
theorem zjm(r:Rl):qd.lookup (nmR r)=some (dfR r):=by cases r<;>decide
theorem zlR(r:Rl):([("by_next",wO),("by_least",xR),("by_all",vO),("by_turn",wP)]:List (Str×Mir)).lookup (dfR r)=some (MR r):=by
 cases r;·rfl
 ·rfl
 ·rfl
 ·rfl
theorem zkm(i:Nat)(l:List Nat)(s:Sto):zc1 false (.int i) (.lst (nL l)) s=.ok (.bl (decide (i∈l))) s:=by
 have e:∀ l:List Nat,jT (nL l)=some (l.map fun j=>V.int ((j:Nat):Int)):=by
  intro l;induction l with
  | nil=>rfl | cons a l ih=>simp only [nL] at ih;simp [nL,jT,z3r,ih]
 have e2:∀ l:List Nat,inV (.int i) (l.map fun j=>V.int ((j:Nat):Int))=decide (i∈l):=by
  intro l;induction l with
  | nil=>rfl | cons a l ih=>
   simp only [inV,_s,_by] at ih ⊢;rw [ih];by_cases q:i=a;·subst q;simp [eqV]
   ·have q':¬ (a:Int)=i:=by omega
    simp [eqV,q,q']
 simp only [zc1,z3r,zW,_J,e,e2];rfl
theorem zbp(x:List D)(s:Sto):vb [.lst x] s=.ok (.tup x) s:=by simp [vb,zW]
theorem z8P {n m:Nat} {v:List Int} (r:Rl) (h:LotB n m v) (he:ended v=false) (hm:m<=1999) (s:Sto):wF [.str (nmR r),rD v] s=.ok (.tup [.int ((deal r v).1:Nat),.lst (iL (yk v (deal r v)))]) s:=by
 have dl:=jO r h.toLot he;have l4:=h.toLot.le4;have by_:=zln r h.toLot he s;have ixs:∀ i,i<v.length->dIx (rD v) (.int ((i:Nat):Int)) s=.ok (.int (v.getD i 0)) s:=fun i hi=>z5z s hi;have gl:ue [rD v] s=.ok (.int v.length) s:=by simp [ue,zW]
 have key:∀ d e:D,e=.str (nmR r)->MR r [d] s=.ok (z2o (deal r v)) s->ue [d] s=.ok (.int v.length) s->(∀ i,i<v.length->dIx d (.int ((i:Nat):Int)) s=.ok (.int (v.getD i 0)) s)->wF [e,d] s=.ok (.tup [.int ((deal r v).1:Nat),.lst (iL (yk v (deal r v)))]) s:=fun d e he' h1 h2 h3=>by
  have st:zt ["rule","lot","deal","by","divided"] [e,d]=[some e,some d,none,none,none]:=rfl;simp only [wF,Mof,z2J,st,_i,_u,_H];have lk:=zjm r;have lm:=zlR r;rw [zh (Z':=[some e,some d,some (.fn (dfR r)),none,none]) (s':=s) (by
   generalize dfR r=y at *;simp [he',lk])];rw [zh (Z':=[some e,some d,some (.fn (dfR r)),some (.int ((deal r v).1:Nat)),some (.lst (nL (deal r v).2))]) (s':=s) (by
   rw [z0I,zev,zd3];simp only [_n,_m];rw [lm];simp only [zu,zF,xo,_n,_m,Rb,h1,zeK,_aV,_aU])];have ir:z0x (za (zg ue (za (zc 1) zi)) zi) [some e,some d,some (.fn (dfR r)),some (.int ((deal r v).1:Nat)),some (.lst (nL (deal r v).2))] s=.ok ((List.range v.length).map fun i=>D.int ((i:Nat):Int),[]) s:=by
   rw [ze0 (n:=v.length) (s1:=s) (by omega) (by simp [h2])];rfl
  have c:=comp_map (mp:=[some 4,some 1,some 3,none]) (fg:=wo 3) (fe:=eIf (tOf (eOp (zc1 false) (zc 3) (zc 0))) (eOp z4n (eOp dIx (zc 1) (zc 3)) (eOp dIx (zc 1) (zc 2))) (eC (.int 0))) (fun i:Nat=>D.int ((i:Nat):Int)) (fun i:Nat=>D.int (if i∈(deal r v).2 then v.getD i 0 / v.getD (deal r v).1 0 else 0)) (fun i=>[some (.lst (nL (deal r v).2)),some d,some (.int ((deal r v).1:Nat)),some (.int (i:Nat))]) (List.range v.length) ir (fun a _=>by simp) (fun i hi=>by
    have hi':i<v.length:=by simpa using hi
    have i1:=zkm i (deal r v).2 s;have e1:=h3 i hi';have e2:=h3 _ dl.lt;simp only [zim,qh,xN,xo,z1u,_n,_m,Rb,i1,e1,e2];by_cases q:i∈(deal r v).2
    ·have p0:0<v.getD (deal r v).1 0:=by
      rcases dl.pos with z | z;·rw [z] at q;simp at q
      ·exact z
     have p1:v.getD (deal r v).1 0<2 ^ 2000:=_bG (h.bd _ (Pm.getD_mem dl.lt)) (by
      have:(2:Nat) ^ m<=2 ^ 2000:=_af (by decide) (by omega);have:=Int.ofNat_le.mpr this;simpa using this);have big:(v.getD (deal r v).1 0).natAbs<BIG:=_r (h.abs _ (Pm.getD_mem dl.lt)) (_af (by decide) (by omega));simp only [q,_cV,_H];rw [zaW,_f ⟨p0,big⟩]
    ·simp only [q,_cr,_ak];rfl) (by simp [cap];omega);simp only [z0R,xT,vJ,zu,c,Rb,zF,xo,_n,_m];rw [_f (by simp [cap])];simp [yk,_aO]
 exact key _ _ rfl by_ gl ixs
theorem eq_str{a b:Str}(ha:PyData.strOk a=true)(hb:PyData.strOk b=true)(s:Sto):dEq (.str a) (.str b) s=.ok (.bl (a==b)) s:=by simp [dEq,zbn,eqD,ki,PyData.eqv,SeqAt.shaped,PyData.canLay0,PyData.depth,ha,hb]
theorem zbi(r:Rl):PyData.strOk (nmR r)=true:=by cases r<;>decide +kernel
theorem zbz(r:Rl)(s:Sto):dEq (.str (nmR r)) (.str "turn") s=.ok (.bl (decide (r=.tu))) s:=by
 rw [eq_str (zbi r) (by decide +kernel)];congr 2;cases r<;>decide +kernel
theorem zfL(r:Rl)(xs:List D)(hl:xs.length<=4)(s:Sto):jL [.str (nmR r),.tup xs] s=.ok (.tup (mvd r xs)) s:=by
 have e1:=z6T xs 1 s;have e2:=z4M xs 1 s;have cp:(xs.drop 1).length+(xs.take 1).length<=cap:=by simp [cap];omega
 have key:∀ d e:D,d=.str (nmR r)->e=.tup xs->jL [d,e] s=.ok (.tup (mvd r xs)) s:=fun d e hd he=>by
  have st:zt ["rule","numbers"] [d,e]=[some d,some e]:=rfl;have t:tOf (eOp dEq (zc 0) (eC (.str "turn"))) [some d,some e] s=.ok (decide (r=.tu)) s:=by simp only [qh,xN,xo,z1u,_n,Rb,hd,zbz]
  simp only [jL,Mof,z8D,st,_i,_u,_H,z5F,xT,zim,t,Rb];by_cases q:r=.tu
  ·simp only [q,_cV,_H];subst q;rw [z54];simp only [xN,zbM,xo,qJ,z2b,z1u,_n,_m,Rb,he];rw [show (1:Int)=((1:Nat):Int) from rfl,e2,Rb,e1,Rb,z5B,_f cp];rfl
  ·simp only [q,_cr];rw [z3u q];simp [he]
 exact key _ _ rfl rfl
theorem z8m{α β:Type}(f:α->D)(g:β->D):∀ (l:List α)(k:List β),z50 (l.map f) (k.map g)=(l.zip k).map fun p=>D.tup [f p.1,g p.2]
 | [],_=>by simp [z50] | _::_,[]=>by simp [z50] | a::l,b::k=>by simp [z50,z8m f g l k]
theorem zgq{α β:Type}(r:Rl)(f:α->β)(xs:List α):mvd r (xs.map f)=(mvd r xs).map f:=by unfold mvd rot;split<;>simp [_c5,_b8]
theorem LotB.q{n m:Nat}{v:List Int}(r:Rl)(h:LotB n m v)(he:ended v=false):Qs v (deal r v).1 (yk v (deal r v)):=zg5 h.nn (jO r h.toLot he)
theorem zh8{n m:Nat}{v:List Int}(r:Rl)(h:LotB n m v)(he:ended v=false):∀ q∈yk v (deal r v),0<=q/\q<2 ^ m:=fun q hq=>by
 have Q:=h.q r he;refine ⟨Q.nn q hq,?_⟩;obtain ⟨i,hi,rfl⟩:=_D.mp hq;have hi':i<v.length:=by rw [<- Q.len];exact hi
 simp only [yk,List.getElem_map,List.getElem_range];have b:=h.bd _ (Pm.getD_mem hi');have n0:=wa h.nn i;split
 ·have:=Int.ediv_le_self (v.getD (deal r v).1 0) n0;omega
 ·omega
theorem zhQ {n m:Nat} {v:List Int} (r:Rl) (h:LotB n m v) (he:ended v=false) (hm:m<=1999) (s:Sto):M_step [.str (nmR r),rD v] s=.ok (rD (stp r v)) s:=by
 have l4:=h.toLot.le4;have w:=z7o r h.toLot he s;have dv:=z8P r h he hm s;have Q:=h.q r he;have dl:=jO r h.toLot he;have ix:dIx (rD v) (.int ((deal r v).1:Nat)) s=.ok (.int (v.getD (deal r v).1 0)) s:=z5z s dl.lt;have mo:=zfL r (iL (left v (yk v (deal r v)) (deal r v).1)) (by simp [vf Q.len];omega) s;have key:∀ d e:D,e=rD v->xM [d,e] s=.ok .non s->wF [d,e] s=.ok (.tup [.int ((deal r v).1:Nat),.lst (iL (yk v (deal r v)))]) s->jL [d,.tup (iL (left v (yk v (deal r v)) (deal r v).1))] s=.ok (.tup (mvd r (iL (left v (yk v (deal r v)) (deal r v).1)))) s-> M_step [d,e] s=.ok (rD (stp r v)) s:=fun d e hd h1 h2 h3=>by
  have st:zt ["rule","lot","by","quotients","left"] [d,e]=[some d,some e,none,none,none]:=rfl;have ixe:dIx e (.int ((deal r v).1:Nat)) s=.ok (.int (v.getD (deal r v).1 0)) s:=by rw [hd];exact ix
  simp only [M_step,Mof,zb3,st,_i,_u,_H];rw [zh (Z':=[some d,some e,none,none,none]) (s':=s) (by simp [h1])];rw [zh (Z':=[some d,some e,some (.int ((deal r v).1:Nat)),some (.lst (iL (yk v (deal r v)))),none]) (s':=s) (by simp [h2])];have ir:zgl (za (zc 1) (za (zc 3) zi)) [some d,some e,some (.int ((deal r v).1:Nat)),some (.lst (iL (yk v (deal r v)))),none] s=.ok ((v.zip (yk v (deal r v))).map fun p=>D.tup [.int p.1,.int p.2],[]) s:=by simp only [zhB,zu,zF,xo,_n,_m,Rb,hd,z95,z8m,_aP]
  have c:=comp_map (mp:=[some 1,some 2,none,none]) (fg:=xW 2 3) (fe:=eOp z9U (zc 2) (eOp uo (zc 3) (eOp dIx (zc 0) (zc 1)))) (fun p:Int×Int=>D.tup [.int p.1,.int p.2]) (fun p:Int×Int=>D.int (p.1-p.2*v.getD (deal r v).1 0)) (fun p=>[some e,some (.int ((deal r v).1:Nat)),some (.int p.1),some (.int p.2)]) _ ir (fun p _=>by simp) (fun p hp=>by
    have hq:=zh8 r h he p.2 (_bB hp).2;have ab:p.2.natAbs<2 ^ m:=by
     have e1:(p.2.natAbs:Int)=p.2:=_cc hq.1;have:(p.2.natAbs:Int)<((2 ^ m:Nat):Int):=by rw [e1];simpa using hq.2
     omega
    have mu:=zh4 (a:=p.2) (b:=v.getD (deal r v).1 0) s ab (by omega) (h.abs _ (Pm.getD_mem dl.lt)) (by omega);simp only [xN,xo,_n,_m,Rb,ixe,mu,zgX]) (by simp [cap];omega);have el:(v.zip (yk v (deal r v))).map (fun p:Int×Int=>D.int (p.1-p.2*v.getD (deal r v).1 0))=iL (left v (yk v (deal r v)) (deal r v).1):=by
   unfold left;show _=List.map D.int _;rw [List.zip,List.map_zipWith,List.map_zipWith]
  rw [el] at c;rw [zh (Z':=[some d,some e,some (.int ((deal r v).1:Nat)),some (.lst (iL (yk v (deal r v)))),some (.tup (iL (left v (yk v (deal r v)) (deal r v).1)))]) (s':=s) (by
   rw [z8E,zK,wE,zu,c];simp only [Rb,zF,zbp,_aV,_aU])];simp only [z8g,xT,wE,zu,zF,xo,_n,_m,Rb,h3];rw [zgq];rfl
 exact key _ _ rfl w dv mo
theorem ur{M:Mir}{f:FE}{Z:Ev}{s:Sto}{x:D}(h:f Z s=.ok x s):zg M (za f zi) Z s=M [x] s:=by simp only [wE,zu,zF,h,Rb]
theorem call2{M:Mir}{f g:FE}{Z:Ev}{s:Sto}{x y:D}(h:f Z s=.ok x s)(h2:g Z s=.ok y s):zg M (za f (za g zi)) Z s=M [x,y] s:=by simp only [wE,zu,zF,h,h2,Rb]
theorem z33{M:Mir}{f g k:FE}{Z:Ev}{s:Sto}{x y z:D}(h:f Z s=.ok x s)(h2:g Z s=.ok y s)(h3:k Z s=.ok z s):zg M (za f (za g (za k zi))) Z s=M [x,y,z] s:=by simp only [wE,zu,zF,h,h2,h3,Rb]
theorem op2{o:D->D->Sto->R D}{f g:FE}{Z:Ev}{s:Sto}{x y:D}(h:f Z s=.ok x s)(h2:g Z s=.ok y s):eOp o f g Z s=o x y s:=by simp only [xN,h,h2,Rb]
theorem z7D{x d:D}{xs:List D}{s:Sto}(h:zW s x=some (xs++[d])):dIx x (.int (-1)) s=.ok d s:=by
 have e:ixN (xs++[d]).length (-1)=some xs.length:=by
  unfold ixN;rw [_q (by omega),_f (by simp;omega)];congr 1;simp;omega
 simp only [dIx,h,atI,e,_J];simp
theorem _root_.Pg.LotB.step{n m:Nat}{v:List Int}(r:Rl)(h:LotB n m v)(he:ended v=false):LotB n m (stp r v):=by
 refine ⟨h.toLot.step r he,fun x hx=>?_⟩;have:=zeE (B:=2 ^ m-1) r h.toLot he (fun y hy=>by have:=h.bd y hy;omega) x hx;omega
theorem zil(T:Tb):(tD T).flat=true:=by
 show D.flat.flats (T.map rD)=true;induction T with
 | nil=>rfl | cons r T ih=>simp only [_s,D.flat.flats,ih,Bool.and_true];exact ye r
theorem zbO{i:Int}(h0:0<=i)(h:i<2 ^ 2000):i.natAbs<BIG:=by
 have e:(i.natAbs:Int)=i:=_cc h0;have k:(2:Int) ^ 2000<=(BIG:Int):=by decide +kernel
 exact Int.ofNat_lt.mp (_bG (by rw [e];exact h) k)
theorem z0m{a b:Int}(s:Sto)(ha:0<=a)(ha':a<2 ^ 2000)(hb:0<=b)(hb':b<2 ^ 2000):uo (.int a) (.int b) s=.ok (.int (a*b)) s:=by rw [zdR,_f ⟨zbO ha ha',zbO hb hb'⟩]
theorem zaI{a b:Int}(s:Sto)(hb:0<b)(hb':b<2 ^ 2000):z4n (.int a) (.int b) s=.ok (.int (a / b)) s:=by rw [zaW,_f ⟨hb,zbO (by omega) hb'⟩]
theorem zho(ns:List Int)(k:Nat)(s:Sto):∃ c,yI [.scr (iL ns),.int k] s=.ok (.int c) s:=by
 by_cases h:k<ns.length
 ·have hk:(k:Int)<ns.length:=by omega
  refine ⟨ns[k],?_⟩;have e:ixN (iL ns).length (k:Int)=some k:=by
   unfold ixN;rw [_f (by omega),_f (by simpa using hk)];simp
  have ix:dIx (.scr (iL ns)) (.int k) s=.ok (.int ns[k]) s:=by
   simp only [dIx,zW,atI,e,_J];simp [h]
  simp only [iL] at ix;simp [yI,Mof,vx,zt,ue,zW,hk,ix]
 ·have hk:¬ (k:Int)<ns.length:=by omega
  exact ⟨0,by simp [yI,Mof,vx,zt,ue,zW,hk]⟩
def Pot(s:Sto)(l:Nat):Prop:=∃ p:Int,s[l]? = some [.int p]
theorem Pot.app{s:Sto}{l:Nat}(h:Pot s l)(t:Sto):Pot (s++t) l:=by
 obtain ⟨p,e⟩:=h;exact ⟨p,by rw [_o (_b.mp e).1];exact e⟩
structure z5k(s s':Sto)(l:Nat):Prop where
 pot:Pot s' l
 len:s'.length=s.length
 oth:∀ m,m≠l->s'[m]? = s[m]?
theorem ziF{s:Sto}{l:Nat}{far:Int}(h:Pot s l)(h0:0<far)(h1:far<2 ^ 2000):∃ r s',zL [.loc l,.int far] s=.ok (.int r) s'/\0<=r/\r<far/\z5k s s' l:=by
 obtain ⟨p,e⟩:=h;have hl:l<s.length:=(_b.mp e).1;refine ⟨p % far,s.set l [.int (p / far)],?_,_a4 _ (by omega),_bi _ h0,⟨p / far,by rw [_O hl]⟩,by simp,fun m hm=>_C (_a5 hm)⟩;have ix:dIx (.loc l) (.int 0) s=.ok (.int p) s:=by simp [dIx,zW,e,atI,ixN]
 simp [zL,Mof,z0K,zt,ix,z86 s h0,zaI s h0 h1,e,ixN,z1t,List.replicate]
theorem zhv(s:Sto):zaS (.int 10) (.int 18) s=.ok (.int 1000000000000000000) s:=by rw [zel];rfl
theorem pow_step{m r j:Nat}(h:m<2147483648 ^ j)(hr:r<2147483587):m*2147483587+r<2147483648 ^ (j+1):=by
 rw [_ds];generalize 2147483648 ^ j=B at h;omega
theorem ziu{m j:Nat}(h:m<2147483648 ^ j)(hj:j<=64):(m:Int)<2 ^ 2000:=by
 have h1:2147483648 ^ j<=2147483648 ^ 64:=_af (by decide) hj;have h2:2147483648 ^ 64<=2 ^ 2000:=by decide +kernel
 have h3:m<2 ^ 2000:=_r h (_U h1 h2);have h4:((2 ^ 2000:Nat):Int)=2 ^ 2000:=by decide +kernel
 rw [<- h4];exact Int.ofNat_lt.mpr h3
theorem zkg (c:Int) (s:Sto):∃ p:Int,vn [.int c] s=.ok (.loc s.length) (s++[[.int p]]):=by
 by_cases h:1000000000000000000<=c;·exact ⟨c-1000000000000000000,by simp [vn,Mof,jS,zt,zhv,h,D.flat.flats,z1t,cap,List.replicate]⟩
 ·have lp:∃ Z' s',z0G [some (.int c),some (.int 0),none,none] s=.ok (.nx Z') s'/\∃ (m:Nat) (a b:Option D),Z'=[some (.int c),some (.int m),a,b]/\s'=s:=by
   obtain ⟨Z',s',e,m,a,b,e1,e2,_⟩:=jk (all:=wr 64) (body:=fun d Z s=>(wo 2 d Z s).bind fun Z' s'=>(zn z0H (zn z0B z0J)) Z' s') (fun j Z s'=>∃ (m:Nat) (a b:Option D),Z=[some (.int c),some (.int m),a,b]/\s'=s/\m<2147483648 ^ j) (wr 64) 0 (fun j x hx Z s' hi=>by
    obtain ⟨m,a,b,rfl,rfl,hm⟩:=hi;obtain ⟨hj,rfl⟩:=z6j hx;rw [_W] at hm;have r0:=_a4 c (show (2147483629:Int)≠0 by decide);have r1:=_bi c (show (0:Int)<2147483629 by decide);have a1:zaR (.int c) (.int 2147483629) s'=.ok (.int (c % 2147483629)) s':=z86 s' (by decide);have a2:uo (.int 7919) (.int j) s'=.ok (.int (7919*j)) s':=z0m s' (by decide) (by decide +kernel) (by omega) (by omega);have a3:uo (.int (c % 2147483629+7919*j+1)) (.int 48271) s'=.ok (.int ((c % 2147483629+7919*j+1)*48271)) s':=z0m s' (by omega) (by omega) (by decide) (by decide +kernel);generalize hx1:(c % 2147483629+7919*(j:Int)+1)*48271 % 2147483647=x1;have b0:0<=x1:=by rw [<- hx1];exact _a4 _ (by decide)
    have b1:x1<2147483647:=by rw [<- hx1];exact _bi _ (by decide)
    have a4:zaR (.int ((c % 2147483629+7919*j+1)*48271)) (.int 2147483647) s'=.ok (.int x1) s':=by rw [<- hx1];exact z86 s' (by decide)
    have a5:uo (.int x1) (.int x1) s'=.ok (.int (x1*x1)) s':=z0m s' b0 (by omega) b0 (by omega);have a6:uo (.int 69621) (.int j) s'=.ok (.int (69621*j)) s':=z0m s' (by decide) (by decide +kernel) (by omega) (by omega);generalize hx2:(x1*x1+69621*(j:Int)+7) % 2147483587=x2;have c0:0<=x2:=by rw [<- hx2];exact _a4 _ (by decide)
    have c1:x2<2147483587:=by rw [<- hx2];exact _bi _ (by decide)
    have a7:zaR (.int (x1*x1+69621*j+7)) (.int 2147483587) s'=.ok (.int x2) s':=by rw [<- hx2];exact z86 s' (by decide)
    have a8:uo (.int m) (.int 2147483587) s'=.ok (.int (m*2147483587)) s':=z0m s' (by omega) (ziu hm (by omega)) (by decide) (by decide +kernel);obtain ⟨y,rfl⟩:=Int.eq_ofNat_of_zero_le c0;refine ⟨[some (.int c),some (.int ((m*2147483587+y:Nat):Int)),some (.int j),some (.int y)],s',?_,m*2147483587+y,_,_,rfl,rfl,?_⟩;·simp [a1,a2,a3,a4,a5,a6,a7,a8]
    ·rw [_W];exact pow_step hm (by omega)) [some (.int c),some (.int 0),none,none] s ⟨0,none,none,rfl,rfl,by decide⟩;exact ⟨Z',s',by simpa using e,m,a,b,e1,e2⟩
  obtain ⟨Z',s',e,m,a,b,rfl,rfl⟩:=lp;refine ⟨m,?_⟩;have st:zt ["_law_cell","_law_number","_law_j","_law_more"] [.int c]=[some (.int c),none,none,none]:=rfl;simp only [vn,Mof,jS,st,_i,_u,_H];rw [zh (Z':=[some (.int c),none,none,none]) (s':=s') (by simp [zhv,h])];rw [zh (Z':=[some (.int c),some (.int 0),none,none]) (s':=s') (by simp)];rw [zh e];simp [D.flat.flats,z1t,cap]
theorem z66{s:Sto}{l:Nat}{far:Int}{f g:FE}{Z:Ev}(h:Pot s l)(h0:0<far)(h1:far<2 ^ 2000)(hf:f Z s=.ok (.loc l) s)(hg:g Z s=.ok (.int far) s):∃ r s',zg zL (za f (za g zi)) Z s=.ok (.int r) s'/\0<=r/\r<far/\z5k s s' l:=by
 obtain ⟨r,s',e,a,b,c⟩:=ziF h h0 h1;exact ⟨r,s',by rw [call2 hf hg,e],a,b,c⟩
theorem zha(s:Sto):zaS (.int 10) (.int 30) s=.ok (.int 1000000000000000000000000000000) s:=by rw [zel];rfl
theorem z3p{xs:List D}{i:Int}{d:D}{s:Sto}(h0:0<=i)(h:xs[i.toNat]? = some d):dIx (.lst xs) (.int i) s=.ok d s:=by
 have hj:i.toNat<xs.length:=(_b.mp h).1;have e:ixN xs.length i=some i.toNat:=by
  unfold ixN;rw [_f h0,_f (by omega)]
 simp only [dIx,zW,atI,e,_J,h]
theorem z9W{xs:List D}{l:Nat}{i:Int}{d:D}{s:Sto}(hl:s[l]? = some xs)(h0:0<=i)(h:xs[i.toNat]? = some d):dIx (.loc l) (.int i) s=.ok d s:=by
 have hj:i.toNat<xs.length:=(_b.mp h).1;have e:ixN xs.length i=some i.toNat:=by
  unfold ixN;rw [_f h0,_f (by omega)]
 simp only [dIx,zW,hl,atI,e,_J,h]
theorem z9H{fa fb fc:FE}{Z:Ev}{s s1 s2:Sto}{L:Nat}{xs:List Int}{i x:Int}(hc:fc Z s=.ok (.int x) s1)(ha:fa Z s1=.ok (.loc L) s1)(hb:fb Z s1=.ok (.int i) s2)(at_:s2[L]? = some (iL xs))(h0:0<=i)(h1:i<xs.length):z4w fa fb fc Z s=.ok (.nx Z) (s2.set L (iL (xs.set i.toNat x))):=by
 have e:ixN (iL xs).length i=some i.toNat:=by
  unfold ixN;rw [_f h0,_f (by simp;omega)]
 rw [zgd,hc,Rb,ha,Rb,hb,Rb];simp only [at_,e,z1t,_H,iL,List.map_set]
theorem zdg{x:Int}(h:x<=1000):x<2 ^ 2000:=Int.lt_of_le_of_lt h (by decide +kernel)
end Pg
namespace Pn
open L2 Dd Pm Pg
def isI:D->Bool
 | .int _=>true | _=>false
theorem jZ{d:D}(h:(tyD d).isSome=true)(s:Sto):zV [d] s=.ok (.bl (isI d)) s:=by cases d<;>simp [tyD] at h<;>simp [zV,Mof,jP,zt,gIs,tyD,isT,isI]
theorem z5K{d:D}(h:(tyD d).isSome=true)(s:Sto):xU [d] s=.ok (.bl (isI d)) s:=by cases d<;>simp [tyD] at h<;>simp [xU,Mof,kz,zt,gIs,tyD,isT,isI]
theorem zcH{α:Type}(l:List α)(p:α->Bool)(s:Sto):zcM [.lst (l.map fun x=>D.bl (p x))] s=.ok (.bl (l.all p)) s:=by
 have b:bools (l.map fun x=>D.bl (p x))=some (l.map p):=by
  rw [show (l.map fun x=>D.bl (p x))=(l.map p).map D.bl by rw [_aK];rfl];exact z5l _
 simp [zcM,zW,b]
theorem zaX{f g:FS}{Z:Ev}{s s':Sto}{c:Str}(h:f Z s=.ex c s'):zn f g Z s=.ex c s':=by rw [zgZ,h,R.bind_ex]
theorem z7k{f:FE}{Z:Ev}{s s':Sto}{c:Str}(h:f Z s=.ex c s'):wS f Z s=.ex c s':=by rw [wD,h,R.bind_ex]
theorem same_int(k:Nat)(i:Int)(s:Sto):zA (k+1) [.int i,.int i] s=.ok (.bl true) s:=by
 have d1:dIs (.int i) .non s=.ok (.bl false) s:=rfl;have w:=z5K (d:=.int i) rfl s;simp [zA,Mof,qR,zt,zib,zhT,gIs,tyD,isT,d1,w,isI]
end Pn
namespace Pm
end Pm
namespace Pg
open L2 Dd Pm
theorem vr{i:Nat}{Z:Ev}{s:Sto}{d:D}(h:Z[i]? = some (some d)):zc i Z s=.ok d s:=by rw [xo,h]
theorem zcX{f g:FS}{t:FT}{Z:Ev}{s:Sto}(h:t Z s=.ok false s):fIf t f g Z s=g Z s:=by rw [zcL,h,Rb,_q (by decide)]
theorem zkz{t u:FT}{Z:Ev}{s:Sto}(h:t Z s=.ok false s)(h2:u Z s=.ok false s):fOr t u Z s=.ok false s:=by rw [zke,h,Rb,_q (by decide),h2]
theorem z2X{f:FE}{Z:Ev}{s:Sto}{b:Bool}(h:f Z s=.ok (.bl b) s):tOf f Z s=.ok b s:=by rw [qh,h];rfl
theorem not_t{t:FT}{Z:Ev}{s:Sto}(h:t Z s=.ok true s):z1c t Z s=.ok false s:=by rw [z8G,h];rfl
end Pg
namespace Pm
end Pm
namespace Pg
open L2 Dd Pm
variable (Mr:Mir)
end Pg
namespace Pm
end Pm
namespace Pg
open L2 Dd Pm
theorem vY{ar:FA}{Z:Ev}{s s1:Sto}{n:Nat}(hn:n<=1000)(h:ar Z s=.ok [.int n] s1):z0x ar Z s=.ok ((List.range n).map fun k:Nat=>D.int ((k:Nat):Int),[]) s1:=by
 rw [zeh,h,Dd.R.bind_ok];simp only;rw [_f ⟨by omega,by omega⟩];simp [wr]
end Pg
namespace Pn
open L2 Dd Pm Pg
theorem z6c{α:Type}{n:Nat}{lt lt':Nat->Nat->Bool}(h:∀ i j,i<n->j<n->lt i j=lt' i j):∀ t:W.KasT α,kev n lt t=kev n lt' t
 | .ret a=>rfl | .ask i j k=>by
  unfold kev;split
  ·rename_i hij;rw [h i j hij.1 hij.2];exact z6c h _
  ·rfl
def mt(a b c d e f:Bool):Nat->Nat->Bool
 | 0,1=>a | 0,2=>b | 0,3=>c | 1,2=>d | 1,3=>e | 2,3=>f | 1,0=>!a | 2,0=>!b | 3,0=>!c | 2,1=>!d | 3,1=>!e | 3,2=>!f | _,_=>false
def trn(n:Nat)(lt:Nat->Nat->Bool):Bool:=(List.range n).all fun i=>(List.range n).all fun j=>(List.range n).all fun k=>!(lt i j&&lt j k)||lt i k
def gud(n:Nat)(lt:Nat->Nat->Bool):Bool:=match kev n lt (W.kas_sort n) with
 | none=>false | some p=>decide (p.toList.Perm (List.range n))&&decide (p.toList.Pairwise fun i j=>lt i j=true)
theorem zli:∀ a b c d e f:Bool,trn 2 (mt a b c d e f)=true->gud 2 (mt a b c d e f)=true:=by decide +kernel
theorem zlM:∀ a b c d e f:Bool,trn 3 (mt a b c d e f)=true->gud 3 (mt a b c d e f)=true:=by decide +kernel
theorem zjB:∀ a b c d e f:Bool,trn 4 (mt a b c d e f)=true->gud 4 (mt a b c d e f)=true:=by decide +kernel
theorem z2B{n:Nat}{lt lt':Nat->Nat->Bool}(h:∀ i j,i<n->j<n->lt i j=lt' i j)(g:gud n lt'=true):∃ p,kev n lt (W.kas_sort n)=some p/\p.toList.Perm (List.range n)/\p.toList.Pairwise fun i j=>lt i j=true:=by
 unfold gud at g;rw [<- z6c h] at g;cases e:kev n lt (W.kas_sort n) with
 | none=>rw [e] at g;cases g | some p=>
  rw [e] at g;simp only [_E,_at] at g;refine ⟨p,rfl,g.1,?_⟩;refine List.Pairwise.imp_of_mem (fun {i j} hi hj q=>?_) g.2;rw [h i j (_aB.mp (g.1.mem_iff.mp hi)) (_aB.mp (g.1.mem_iff.mp hj))];exact q
theorem z9i{n:Nat}{lt:Nat->Nat->Bool}(h2:2<=n)(h4:n<=4)(irr:∀ i,lt i i=false)(tot:∀ i j,i<n->j<n->i≠j->lt j i=!lt i j)(tr:∀ i j k,lt i j=true->lt j k=true->lt i k=true): ∃ p,kev n lt (W.kas_sort n)=some p/\p.toList.Perm (List.range n)/\p.toList.Pairwise fun i j=>lt i j=true:=by
 have eqm:∀ i j,i<n->j<n->lt i j=mt (lt 0 1) (lt 0 2) (lt 0 3) (lt 1 2) (lt 1 3) (lt 2 3) i j:=fun i j hi hj=>by
  have hi':i=0\/i=1\/i=2\/i=3:=by omega
  have hj':j=0\/j=1\/j=2\/j=3:=by omega
  by_cases e:i=j
  ·subst e;rw [irr];rcases hi' with rfl | rfl | rfl | rfl<;>rfl
  ·have q:=tot j i hj hi (fun z=>e z.symm);rcases hi' with rfl | rfl | rfl | rfl<;>rcases hj' with rfl | rfl | rfl | rfl<;>first | exact absurd rfl e | rfl | exact q
 have tm:trn n (mt (lt 0 1) (lt 0 2) (lt 0 3) (lt 1 2) (lt 1 3) (lt 2 3))=true:=by
  simp only [trn,_bg,_aB];intro i hi j hj k hk;rw [<- eqm i j hi hj,<- eqm j k hj hk,<- eqm i k hi hk];cases a:lt i j<;>cases b:lt j k<;>simp;exact tr i j k a b
 have hn:n=2\/n=3\/n=4:=by omega
 rcases hn with rfl | rfl | rfl;·exact z2B eqm (zli _ _ _ _ _ _ tm)
 ·exact z2B eqm (zlM _ _ _ _ _ _ tm)
 ·exact z2B eqm (zjB _ _ _ _ _ _ tm)
theorem za4(p:Int×Int):lexLt p p=false:=by simp [Dd.lexLt]
theorem zfz{p q:Int×Int}(h:p≠q):lexLt q p=!lexLt p q:=by
 obtain ⟨a,b⟩:=p;obtain ⟨c,d⟩:=q;simp only [Dd.lexLt];by_cases e:a=c
 ·subst e;have:b≠d:=fun z=>h (by rw [z]);simp only [_H,this,this.symm,_ak];by_cases l:b<d;·simp [l];omega
  ·simp [l];omega
 ·have e':¬ c=a:=fun z=>e z.symm;simp only [e,e',_ak];by_cases l:a<c;·simp [l];omega
  ·simp [l];omega
theorem za1{p q:Int×Int}:Dd.lexLt p q=true ↔ p.1<q.1\/(p.1=q.1/\p.2<q.2):=by
 obtain ⟨a,b⟩:=p;obtain ⟨c,d⟩:=q;simp only [Dd.lexLt];by_cases e:a=c
 ·subst e;by_cases e2:b=d
  ·subst e2;simp
  ·simp [e2]
 ·simp [e]
theorem zi9{p q r:Int×Int}(h:Dd.lexLt p q=true)(h':Dd.lexLt q r=true):Dd.lexLt p r=true:=by
 rw [za1] at *;omega
abbrev pD(p:Int×Int):D:=.tup [.int p.1,.int p.2]
theorem z3j:∀ ps:List (Int×Int),z0F (ps.map pD)=some ps
 | []=>rfl | p::ps=>by simp [z0F,z3j ps]
theorem z6e {ps:List (Int×Int)} (h2:2<=ps.length) (h4:ps.length<=4) (nd:ps.Nodup) (s:Sto): ∃ qs:List (Int×Int),kZ [.lst (ps.map pD)] s=.ok (.lst (qs.map pD)) s/\qs.Perm ps/\qs.Pairwise fun a b=>Dd.lexLt a b=true:=by
 obtain ⟨p,e,pm,pw⟩:=z9i (n:=ps.length) (lt:=fun i j=>Dd.lexLt (ps.getD i (0,0)) (ps.getD j (0,0))) h2 h4 (fun i=>za4 _) (fun i j hi hj hij=>zfz fun z=>hij (by
  rw [_k,_k,_e hi,_e hj] at z;exact (_br nd).mp (by simpa using z))) (fun i j k a b=>zi9 a b);have hin:∀ i∈p.toList,i<ps.length:=fun i hi=>_aB.mp (pm.mem_iff.mp hi);have hlen:p.toList.length=ps.length:=by rw [pm.length_eq,_cW]
 refine ⟨p.toList.map fun i=>ps.getD i (0,0),?_,?_,?_⟩
 ·have em:(p.toList.map fun i=>(ps.map pD).getD i .non)=(p.toList.map fun i=>ps.getD i (0,0)).map pD:=by
   rw [_aK];refine _bc fun i hi=>?_;have:=hin i hi;simp [_k,this]
  have all:p.toList.all (fun i=>decide (i<(ps.map pD).length))=true:=by
   rw [_bg];intro i hi;simpa using hin i hi
  simp only [kZ,Dd.listOf,z3j,_B];rw [_f ⟨h2,by omega⟩,e];simp only;rw [_f ⟨by simpa using all,hlen⟩,em]
 ·have:=pm.map fun i=>ps.getD i (0,0);refine this.trans ?_;have:(List.range ps.length).map (fun i=>ps.getD i (0,0))=ps:=by
   apply _aI;·simp
   ·intro i h1 h2;simp [_k,h2]
  rw [this]
 ·rw [_cU];exact pw
end Pn
namespace Pm
open L2 (maxL minL maxL_ge maxL_mem minL_le minL_mem)
abbrev enP(v:List Int):List (Int×Nat):=v.zipIdx
def z4c(v:List Int):List (Int×Int):=((enP v).filter fun p=>decide (0<p.1)).map fun p=>(p.1,(p.2:Int))
theorem z7u{v:List Int}{p:Int×Nat}:p∈enP v ↔ v[p.2]? = some p.1:=by
 obtain ⟨x,i⟩:=p;exact List.mem_zipIdx_iff_getElem?
theorem ja{v:List Int}{a:Int×Int}:a∈z4c v ↔ ∃ i:Nat,a.2=i/\v[i]? = some a.1/\0<a.1:=by
 unfold z4c;simp only [_F,_bj,_at];constructor
 ·rintro ⟨p,⟨hp,h0⟩,rfl⟩;exact ⟨p.2,rfl,z7u.mp hp,h0⟩
 ·rintro ⟨i,e,g,h0⟩;exact ⟨(a.1,i),⟨z7u.mpr g,h0⟩,by rw [<- e]⟩
theorem zac{x:Int}:∀ {v:List Int}{i:Nat},v[i]? = some x->v.idxOf x<=i
 | [],i,h=>by simp at h | y::v,0,h=>by
  simp only [_n,_w] at h;subst h;simp | y::v,i+1,h=>by
  simp only [_m] at h;have:=zac h;rw [List.idxOf_cons];cases y==x<;>simp<;>omega
theorem getD_get{v:List Int}{i:Nat}(h:i<v.length):v[i]? = some (v.getD i 0):=by simp [_k,h]
theorem z8e{w:List Int}{qs:List (Int×Int)}(hw:∀ x∈w,0<=x)(hn:nz w≠[])(hm:∀ a,a∈qs ↔ a∈z4c w)(pw:qs.Pairwise fun a b=>Dd.lexLt a b=true):∃ uh,qs=(minL (nz w),(lp w:Int))::uh:=by
 obtain ⟨l1,l2,l3⟩:=z79 hn;have mem:=minL_mem hn;have m0:0<minL (nz w):=by
  have:=hw _ (uk.mp mem).1;omega
 have hin:(minL (nz w),(lp w:Int))∈z4c w:=ja.mpr ⟨lp w,rfl,by rw [getD_get l1,l2],m0⟩;cases qs with
 | nil=>exact absurd ((hm _).mpr hin) (by simp) | cons a uh=>
  refine ⟨uh,?_⟩;have ha:a∈z4c w:=(hm a).mp (.head _);obtain ⟨i,e,g,h0⟩:=ja.mp ha;have an:a.1∈nz w:=uk.mpr ⟨_A g,by omega⟩;have le1:=minL_le _ an;rcases _z.mp ((hm _).mpr hin) with z | z;·rw [z]
  ·have lx:=Pn.za1.mp ((List.pairwise_cons.mp pw).1 _ z);simp only at lx;exfalso;rcases lx with q | ⟨q,q2⟩;·omega
   ·have:w.idxOf a.1<=i:=zac g;rw [q] at this;have e2:lp w=w.idxOf (minL (nz w)):=rfl;omega
theorem z2I{n:Nat}{v:List Int}(h:Lot n v)(a:Int×Int):a∈z4c (others v) ↔ a∈z4c v/\a.2≠(gp v:Int):=by
 have ne:=h.ne;rw [ja,ja];constructor
 ·rintro ⟨i,e,g,h0⟩;have hi:i<(others v).length:=by
   have:=(_b.mp g).1;exact this
  have g2:=wG ne i;rw [getD_get hi,_w,g2] at g;split at g;·omega
  ·rename_i q;rw [xm ne] at hi;exact ⟨⟨i,e,by rw [getD_get hi,g],h0⟩,by omega⟩
 ·rintro ⟨⟨i,e,g,h0⟩,hg⟩;have hi:i<v.length:=(_b.mp g).1;rw [getD_get hi,_w] at g;refine ⟨i,e,?_,h0⟩;rw [getD_get (by rw [xm ne];exact hi),wG ne i,_q (by omega),g]
theorem z2f{n:Nat}{v:List Int}(h:Lot n v):∀ x∈others v,0<=x:=fun x hx=>by
 rw [others_eq h.ne] at hx;rcases List.mem_or_eq_of_mem_set hx with q | q;·exact h.nn x q
 ·omega
theorem zfI{w:List Int}{qs:List (Int×Int)}(hw:∀ x∈w,0<=x)(hn:nz w≠[])(hm:∀ a,a∈qs ↔ a∈z4c w):qs.map Prod.fst≠[]/\maxL (qs.map Prod.fst)=maxL w/\0<maxL w:=by
 have wne:w≠[]:=fun z=>hn (by rw [z];rfl);obtain ⟨y,hy⟩:=List.exists_mem_of_ne_nil _ hn;obtain ⟨y1,y2⟩:=uk.mp hy;have p0:0<maxL w:=by
  have:=hw y y1;have:=maxL_ge (xs:=w) y y1;omega
 have mw:=maxL_mem wne;obtain ⟨i1,i2⟩:=z5L mw;have hin:(maxL w,((w.idxOf (maxL w):Nat):Int))∈qs:=(hm _).mpr (ja.mpr ⟨_,rfl,by rw [getD_get i1,i2],p0⟩);have hin':maxL w∈qs.map Prod.fst:=_F.mpr ⟨_,hin,rfl⟩;have ne:qs.map Prod.fst≠[]:=List.ne_nil_of_mem hin';refine ⟨ne,?_,p0⟩;have h1:=maxL_ge _ hin';have h2:=maxL_mem ne;obtain ⟨a,ha,e⟩:=_F.mp h2;obtain ⟨i,_,g,_⟩:=ja.mp ((hm a).mp ha);have h3:=maxL_ge (xs:=w) a.1 (_A g);omega
theorem z8t {w:List Int} {k:Int} (hk:k∈w) (p:Nat->Bool) (hp:∀ i,i<w.length->p i=decide (w.getD i 0=k)):∃ uh,(List.range w.length).filter p=w.idxOf k::uh:=by
 obtain ⟨i1,i2⟩:=z5L hk;have f:(List.range w.length).find? p=some (w.idxOf k):=by
  rw [List.find?_range_eq_some];refine ⟨by rw [hp _ i1,i2];simp,by simpa using i1,fun j hj=>?_⟩;rw [hp j (by omega)];simp only [Bool.not_eq_true',decide_eq_false_iff_not];intro z;have:=zac (v:=w) (i:=j) (x:=k) (by rw [getD_get (by omega),z]);omega
 have hd:=List.head?_filter (p:=p) (l:=List.range w.length);rw [f] at hd;cases e:(List.range w.length).filter p with
 | nil=>rw [e] at hd;simp at hd | cons a uh=>
  rw [e] at hd;simp only [List.head?_cons,_w] at hd;exact ⟨uh,by rw [hd]⟩
def z9X(v:List Int)(z:Int)(ps:List Nat)(xs:List Int):List Int:=ps.foldl (fun xs p=>xs.set p (v.getD p 0 / z)) xs
theorem z8l(v:List Int)(z:Int):∀ (ps:List Nat)(xs:List Int),(z9X v z ps xs).length=xs.length
 | [],xs=>rfl | p::ps,xs=>by
  have:=z8l v z ps (xs.set p (v.getD p 0 / z));simpa [z9X] using this
theorem z8k(v:List Int)(z:Int):∀ (ps:List Nat)(xs:List Int)(i:Nat),i<xs.length->(z9X v z ps xs).getD i 0=if i∈ps then v.getD i 0 / z else xs.getD i 0
 | [],xs,i,_=>by simp [z9X] | p::ps,xs,i,hi=>by
  have ih:=z8k v z ps (xs.set p (v.getD p 0 / z)) i (by simpa using hi);have e:z9X v z (p::ps) xs=z9X v z ps (xs.set p (v.getD p 0 / z)):=rfl;rw [e,ih];by_cases q:i∈ps;·simp [q]
  ·by_cases q2:i=p
   ·subst q2;simp [q,hi,_k]
   ·have q3:¬ p=i:=fun z=>q2 z.symm;simp [q,q2,_k,q3]
theorem jj(v:List Int)(b:Nat)(ps:List Nat):z9X v (v.getD b 0) ps (List.replicate v.length 0)=yk v (b,ps):=by
 apply _aI;·rw [z8l,xA];simp
 ·intro i h1 h2;have hi:i<v.length:=by rw [xA] at h2;exact h2
  have:=z8k v (v.getD b 0) ps (List.replicate v.length 0) i (by simpa using hi);rw [_k,_e h1,_aH] at this;rw [this];simp [yk,hi]
theorem zaa(v:List Int)(b:Nat):yk v (b,[])=List.replicate v.length 0:=by
 apply _aI;·rw [xA];simp
 ·intro i h1 h2;simp [yk]
end Pm
namespace Pg
open L2 Dd Pm
end Pg
namespace Po
open L2 Dd Pm Pg Pn
theorem z5h:∀ (v:List Int)(k:Nat),z2M k (iL v)=(v.zipIdx k).map fun p=>D.tup [.int ((p.2:Nat):Int),.int p.1]
 | [],k=>rfl | x::v,k=>by simp [z2M,z5h v (k+1)]
theorem z7Z{v:List Int}{f:FE}{Z:Ev}{s:Sto}(hf:f Z s=.ok (rD v) s):z58 (za f zi) Z s=.ok ((enP v).map fun p=>D.tup [.int ((p.2:Nat):Int),.int p.1],[]) s:=by simp only [z58,zu,hf,Rb,zF,z95,z5h]
theorem zcK{v:List Int}(h:∀ x∈v,0<=x):(z4c v).length=(nz v).length:=by
 have key:∀ (v:List Int)(k:Nat),(∀ x∈v,0<=x)->((v.zipIdx k).filter fun p=>decide (0<p.1)).length=(nz v).length:=by
  intro v;induction v with
  | nil=>intro k _;rfl | cons x v ih=>
   intro k hx;have h0:=hx x (.head _);have ih:=ih (k+1) fun y hy=>hx y (.tail _ hy);rw [_dc];by_cases q:x=0
   ·subst q;simpa [nz,_b5] using ih
   ·have q2:0<x:=by omega
    simp only [nz,_b5,q2,q,_cV,ne_eq,not_false_eq_true,_H,_i];simpa [nz] using ih
 simpa [z4c] using key v 0 h
theorem zfB(v:List Int):(z4c v).Nodup:=by
 have h0:(enP v).Nodup:=List.Pairwise.of_map (S:=fun a b:Nat=>a≠b) Prod.snd (fun a b h z=>h (by rw [z])) (by rw [List.zipIdx_map_snd];exact List.nodup_range');unfold z4c;refine List.Pairwise.map _ (fun a b hab z=>hab ?_) (h0.filter _);simp only [_bz] at z;exact Prod.ext z.1 (by omega)
theorem zdM{n:Nat}{v:List Int}(h:Lot n v)(he:ended v=false):2<=(z4c v).length/\(z4c v).length<=4:=by
 have l4:=h.le4;rw [zcK h.nn];have h1:(nz v).length≠1:=by simpa [ended] using he
 have h2:(nz v).length≠0:=fun z=>h.nzne (_aN.mp z);have h3:(nz v).length<=v.length:=List.length_filter_le _ _;omega
theorem zcs {n:Nat} {v:List Int} (h:Lot n v) (he:ended v=false) (Z:Ev) (s:Sto) (h1:Z[1]? = some (some (rD v))): ∃ qs:List (Int×Int),vh Z s=.ok (.nx (Z.set 3 (some (.lst (qs.map pD))))) s/\(∀ a,a∈qs ↔ a∈z4c v)/\qs.Pairwise fun a b=>Dd.lexLt a b=true:=by
 have l2:=zdM h he;obtain ⟨qs,e,pm,pw⟩:=z6e l2.1 l2.2 (zfB v) s;refine ⟨qs,?_,fun a=>pm.mem_iff,pw⟩;have l4:=h.le4;have c:=wL (s:=s) (mp:=[none,none]) (fg:=xW 0 1) (ft:=tOf (eOp dGt (zc 1) (eC (.int 0)))) (fe:=qq (za (zc 1) (za (zc 0) zi))) (fun p:Int×Nat=>D.tup [.int ((p.2:Nat):Int),.int p.1]) (fun p=>pD (p.1,((p.2:Nat):Int))) (fun p=>decide (0<p.1)) (fun p=>[some (.int ((p.2:Nat):Int)),some (.int p.1)]) (enP v) (z7Z (vr h1)) (fun p _=>by simp) (fun p _=>by simp) (fun p _ _=>by simp [cap]) (by simp [enP,cap];omega);have em:List.map (fun p:Int×Nat=>pD (p.1,((p.2:Nat):Int))) ((enP v).filter fun p=>decide (0<p.1))=(z4c v).map pD:=by simp [z4c,_aO]
 rw [em] at c;rw [vh,zK,ur c,e];rfl
theorem z2s{v:List Int}{k:Nat}{uh:List Nat}{f:FE}{Z:Ev}{s:Sto}(hf:f Z s=.ok (.lst (nL (k::uh))) s):eOp dIx f (eC (.int 0)) Z s=.ok (.int k) s:=by
 rw [xN,hf,Rb,z1u,Rb];exact z3p (_cP _) rfl
abbrev EV(a0 a1 a2 a3 a4 a5 a6 a7 a8 a9 a10 a11 a12:Option D):Ev:=[a0,a1,a2,a3,a4,a5,a6,a7,a8,a9,a10,a11,a12]
structure LD(d:D)(v:List Int):Prop where
 eq:d=rD v
 ix:∀ (s:Sto)(i:Nat),i<v.length->dIx d (.int i) s=.ok (.int (v.getD i 0)) s
 mx:∀ s:Sto,vE [d] s=.ok (.int (maxL v)) s
 len:∀ s:Sto,ue [d] s=.ok (.int v.length) s
theorem LD.of{n:Nat}{v:List Int}(h:Lot n v):LD (rD v) v:=⟨rfl,fun s i hi=>z5z s hi,fun s=>z5R s h.ne,fun s=>by simp [ue,zW]⟩
section
variable {n:Nat}{v:List Int}{d e:D}(h:Lot n v)(D:LD d v)(he:ended v=false){a0 a1 a2 a3 a4 a5 a6 a7 a8 a9 a10 a11 a12:Option Dd.D}(s:Sto)
include h D
theorem zlg:uS (EV a0 (some d) a2 a3 a4 a5 a6 a7 a8 a9 a10 a11 a12) s=.ok (.nx (EV a0 (some d) (some (.int v.length)) a3 a4 a5 a6 a7 a8 a9 a10 a11 a12)) s:=by
 rw [uS,zK,ur (x:=d) (vr rfl),D.len];rfl
theorem zlu:uV (EV a0 (some d) (some (.int v.length)) a3 a4 a5 a6 a7 a8 a9 a10 a11 a12) s=.ok (.nx (EV a0 (some d) (some (.int v.length)) a3 (some (.int (gp v))) a5 a6 a7 a8 a9 a10 a11 a12)) s:=by
 have l4:=h.le4;obtain ⟨uh,e⟩:=z8t (w:=v) (maxL_mem h.ne) (fun i=>decide (v.getD i 0=maxL v)) (fun i _=>rfl);have c:=wL (s:=s) (mp:=[some 1,none]) (fg:=wo 1) (ft:=tOf (eOp dEq (eOp dIx (zc 0) (zc 1)) (zg vE (za (zc 0) zi)))) (fe:=zc 1) (fun i:Nat=>Dd.D.int ((i:Nat):Int)) (fun i:Nat=>Dd.D.int ((i:Nat):Int)) (fun i=>decide (v.getD i 0=maxL v)) (fun i=>[some d,some (.int ((i:Nat):Int))]) (List.range v.length) (vY (n:=v.length) (Z:=EV a0 (some d) (some (.int v.length)) a3 a4 a5 a6 a7 a8 a9 a10 a11 a12) (ar:=za (zc 2) zi) (by omega) (by simp)) (fun i _=>by simp) (fun i hi=>by
   have hi':i<v.length:=by simpa using hi
   have e1:=D.ix s i hi';have e2:=D.mx s;simp only [qh,xN,xo,wE,zu,zF,_n,_m,Rb,e1,e2,z7e]) (fun i _ _=>by simp) (by simp [cap];omega);rw [e] at c;rw [uV,zK,z2s (v:=v) c];rfl
end
def zdS(v:List Int):Rl->D
 | .al=>.int (lp v) | .tu=>.int 0 | _=>.non
theorem zkC(r:Rl)(s:Sto):dEq (.str (nmR r)) (.str "least") s=.ok (.bl (decide (r=.le))) s:=by
 rw [Pg.eq_str (zbi r) (by decide +kernel)];congr 2;cases r<;>decide +kernel
theorem zjn(r:Rl)(s:Sto):dEq (.str (nmR r)) (.str "next") s=.ok (.bl (decide (r=.nx))) s:=by
 rw [Pg.eq_str (zbi r) (by decide +kernel)];congr 2;cases r<;>decide +kernel
structure RD(e:D)(r:Rl):Prop where
 eq:e=.str (nmR r)
 le:∀ s:Sto,dEq e (.str "least") s=.ok (.bl (decide (r=.le))) s
 nx:∀ s:Sto,dEq e (.str "next") s=.ok (.bl (decide (r=.nx))) s
 tu:∀ s:Sto,dEq e (.str "turn") s=.ok (.bl (decide (r=.tu))) s
 in_:∀ s:Sto,zc1 false e (.tup [.str "next",.str "least"]) s=.ok (.bl (decide (r=.nx\/r=.le))) s
theorem RD.of(r:Rl):RD (.str (nmR r)) r:=⟨rfl,zkC r,zjn r,zbz r,fun s=>by cases r<;>rfl⟩
section
variable {n:Nat}{v:List Int}{d e:D}(h:Lot n v){a0 a1 a2 a3 a4 a5 a6 a7 a8 a9 a10 a11 a12:Option Dd.D}(s:Sto){qs:List (Int×Int)}
theorem zlt {r:Rl} {m:Int} {uh:List (Int×Int)} (E:RD e r) (hq:qs=(m,(lp v:Int))::uh):uB (EV (some e) a1 a2 (some (.lst (qs.map pD))) a4 a5 a6 a7 a8 a9 a10 a11 a12) s=.ok (.nx (EV (some e) a1 a2 (some (.lst (qs.map pD))) a4 (some (zdS v r)) a6 a7 a8 a9 a10 a11 a12)) s:=by
 have i1:dIx (.lst (qs.map pD)) (.int 0) s=.ok (pD (m,(lp v:Int))) s:=by
  rw [hq];exact z3p (_cP _) rfl
 have i2:dIx (pD (m,(lp v:Int))) (.int 1) s=.ok (.int (lp v)) s:=z5z (r:=[m,(lp v:Int)]) (j:=1) s (by simp);have hg:(if nmR r="all" then D.int (lp v) else if nmR r="turn" then .int 0 else .non)=zdS v r:=by
  cases r;·rw [_q (by decide),_q (by decide)];rfl
  ·rw [_q (by decide),_q (by decide)];rfl
  ·rw [_f (by decide)];rfl
  ·rw [_q (by decide),_f (by decide)];rfl
 rw [uB,zK];have:z9J "all" "turn" (eOp dIx (eOp dIx (zc 3) (eC (.int 0))) (eC (.int 1))) (eC (.int 0)) (zc 0) (EV (some e) a1 a2 (some (.lst (qs.map pD))) a4 a5 a6 a7 a8 a9 a10 a11 a12) s=.ok (zdS v r) s:=by
  unfold z9J;rw [xN,xN,vr (d:=.lst (qs.map pD)) rfl,Rb,z1u,Rb,i1,Rb,z1u,Rb,i2,Rb,z1u,Rb,vr (d:=e) rfl,Rb,E.eq];simp only;rw [hg]
 rw [this];rfl
theorem z9S(g:Int×Int->D)(fe:FE)(hfe:∀ a:Int×Int,fe [some (.int (gp v)),some (.int a.1),some (.int a.2)] s=.ok (g a) s)(hl:qs.length<=4): zD (xb (zc 3)) [some 4,none,none] (xW 1 2) (tOf (eOp dNe (zc 2) (zc 0))) fe (EV a0 a1 a2 (some (.lst (qs.map pD))) (some (.int (gp v))) a5 a6 a7 a8 a9 a10 a11 a12) s = .ok (.lst ((qs.filter fun a=>decide (a.2≠(gp v:Int))).map g)) s:= wL (s:=s) pD g (fun a=>decide (a.2≠(gp v:Int))) (fun a=>[some (.int (gp v)),some (.int a.1),some (.int a.2)]) qs (ve (vr rfl)) (fun a _=>by simp) (fun a _=>by simp) (fun a _ _=>hfe a) (by simp [cap];omega)
variable (he:ended v=false)(hm:∀ a,a∈qs ↔ a∈z4c v)(pw:qs.Pairwise fun a b=>Dd.lexLt a b=true)(hl:qs.length<=4)
include h he hm pw
theorem zca:∃ uh,(qs.filter fun a=>decide (a.2≠(gp v:Int)))=(minL (nz (others v)),((lp (others v):Nat):Int))::uh:= z8e (z2f h) (uq h he) (fun a=>by rw [z2I h,<- hm];simp) (pw.filter _)
theorem zgh:(qs.filter fun a=>decide (a.2≠(gp v:Int))).map Prod.fst≠[]/\maxL ((qs.filter fun a=>decide (a.2≠(gp v:Int))).map Prod.fst)=maxL (others v)/\0<maxL (others v):= zfI (z2f h) (uq h he) (fun a=>by rw [z2I h,<- hm];simp)
include hl
theorem zlA:qi (EV a0 a1 a2 (some (.lst (qs.map pD))) (some (.int (gp v))) a5 a6 a7 a8 a9 a10 a11 a12) s=.ok (.nx (EV a0 a1 a2 (some (.lst (qs.map pD))) (some (.int (gp v))) (some (.int ((lp (others v):Nat):Int))) a6 a7 a8 a9 a10 a11 a12)) s:=by
 obtain ⟨uh,e⟩:=zca h he hm pw;have c:=z9S (v:=v) (a0:=a0) (a1:=a1) (a2:=a2) (a5:=a5) (a6:=a6) (a7:=a7) (a8:=a8) (a9:=a9) (a10:=a10) (a11:=a11) (a12:=a12) s (fun a=>.int a.2) (zc 2) (fun a=>vr rfl) hl;rw [e] at c;rw [qi,zK,xN,c,Rb,z1u,Rb,z3p (d:=.int ((lp (others v):Nat):Int)) (_cP _) rfl];rfl
theorem zlG:uQ (EV a0 a1 a2 (some (.lst (qs.map pD))) (some (.int (gp v))) a5 a6 a7 a8 a9 a10 a11 a12) s=.ok (.nx (EV a0 a1 a2 (some (.lst (qs.map pD))) (some (.int (gp v))) a5 (some (.int (maxL (others v)))) a7 a8 a9 a10 a11 a12)) s:=by
 obtain ⟨ne,e,_⟩:=zgh h he hm pw;have c:=z9S (v:=v) (a0:=a0) (a1:=a1) (a2:=a2) (a5:=a5) (a6:=a6) (a7:=a7) (a8:=a8) (a9:=a9) (a10:=a10) (a11:=a11) (a12:=a12) s (fun a=>.int a.1) (zc 1) (fun a=>vr rfl) hl;have em:((qs.filter fun a=>decide (a.2≠(gp v:Int))).map fun a=>D.int a.1)=iL ((qs.filter fun a=>decide (a.2≠(gp v:Int))).map Prod.fst):=by simp [_aO]
 rw [em] at c;rw [uQ,zK,ur c,zdT s ne,e];rfl
omit pw hl hm
theorem zla (D:LD d v):uW (EV a0 (some d) (some (.int v.length)) a3 (some (.int (gp v))) a5 (some (.int (maxL (others v)))) a7 a8 a9 a10 a11 a12) s = .ok (.nx (EV a0 (some d) (some (.int v.length)) a3 (some (.int (gp v))) (some (.int (((others v).idxOf (maxL (others v)):Nat):Int))) (some (.int (maxL (others v)))) a7 a8 a9 a10 a11 a12)) s:=by
 have l4:=h.le4;have ol:=xm h.ne;have one:others v≠[]:=fun z=>by rw [z] at ol;simp at ol;omega
 have pos:0<maxL (others v):=by
  obtain ⟨y,hy⟩:=List.exists_mem_of_ne_nil _ (uq h he);obtain ⟨y1,y2⟩:=uk.mp hy;have:=z2f h y y1;have:=maxL_ge (xs:=others v) y y1;omega
 obtain ⟨uh,e⟩:=z8t (w:=others v) (maxL_mem one) (fun i=>decide (v.getD i 0=maxL (others v))&&decide (i≠gp v)) (fun i _=>by
  rw [wG h.ne];by_cases q:i=gp v
  ·simp only [q,_H,ne_eq,not_true_eq_false,_cr,Bool.and_false];symm;simp;omega
  ·simp [q]);rw [ol] at e;have c:=wL (s:=s) (mp:=[some 6,some 4,some 1,none]) (fg:=wo 3) (ft:=zfg (tOf (eOp dEq (eOp dIx (zc 2) (zc 3)) (zc 0))) (tOf (eOp dNe (zc 3) (zc 1)))) (fe:=zc 3) (fun i:Nat=>Dd.D.int ((i:Nat):Int)) (fun i:Nat=>Dd.D.int ((i:Nat):Int)) (fun i=>decide (v.getD i 0=maxL (others v))&&decide (i≠gp v)) (fun i=>[some (.int (maxL (others v))),some (.int (gp v)),some d,some (.int ((i:Nat):Int))]) (List.range v.length) (vY (n:=v.length) (Z:=EV a0 (some d) (some (.int v.length)) a3 (some (.int (gp v))) a5 (some (.int (maxL (others v)))) a7 a8 a9 a10 a11 a12) (ar:=za (zc 2) zi) (by omega) (by simp)) (fun i _=>by simp) (fun i hi=>by
   have hi':i<v.length:=by simpa using hi
   have e1:=D.ix s i hi';have e3:decide ((i:Int)≠(gp v:Int))=decide (i≠gp v):=by
    by_cases q:i=gp v;·simp [q]
    ·have:¬ (i:Int)=(gp v:Int):=by omega
     simp [q,this]
   simp only [zeC,qh,xN,xo,_n,_m,Rb,e1,z7e,zfm,e3];cases decide (v.getD i 0=maxL (others v))<;>simp) (fun i _ _=>by simp) (by simp [cap];omega);rw [e] at c;rw [uW,zK,z2s (v:=v) c];rfl
omit he
theorem zk7 (b:Nat):wH (EV a0 a1 (some (.int v.length)) a3 a4 (some (.int b)) a6 a7 a8 a9 a10 a11 a12) s=.ok (.nx (EV a0 a1 (some (.int v.length)) a3 a4 (some (.int b)) a6 (some (.lst (nL (xt v b)))) a8 a9 a10 a11 a12)) s:=by
 have l4:=h.le4;have c:=wL (s:=s) (mp:=[some 5,none]) (fg:=wo 1) (ft:=tOf (eOp dNe (zc 1) (zc 0))) (fe:=zc 1) (fun i:Nat=>Dd.D.int ((i:Nat):Int)) (fun i:Nat=>Dd.D.int ((i:Nat):Int)) (fun i=>decide (i≠b)) (fun i=>[some (.int b),some (.int ((i:Nat):Int))]) (List.range v.length) (vY (n:=v.length) (Z:=EV a0 a1 (some (.int v.length)) a3 a4 (some (.int b)) a6 a7 a8 a9 a10 a11 a12) (ar:=za (zc 2) zi) (by omega) (by simp)) (fun i _=>by simp) (fun i hi=>by
   have e3:decide ((i:Int)≠(b:Int))=decide (i≠b):=by
    by_cases q:i=b;·simp [q]
    ·have:¬ (i:Int)=(b:Int):=by omega
     simp [q,this]
   simp only [qh,xN,xo,_n,_m,Rb,zfm,e3]) (fun i _ _=>by simp) (by simp [cap];omega);rw [wH,zK,c];rfl
end
theorem zdn(n:Nat):(List.replicate n [D.int 0]).flatten=iL (List.replicate n 0):=by induction n with
 | zero=>rfl | succ n ih=>simp [_ao,ih]
theorem zfs{fa fb:FE}{Z:Ev}{s s2:Sto}{L:Nat}{xs:List D}{x:D}(ha:fa Z s=.ok (.loc L) s)(hb:fb Z s=.ok x s2)(at_:s2[L]? = some xs)(hl:xs.length<1000)(hx:x.flat=true):wS (z9y fa fb) Z s=.ok (.nx Z) (s2.set L (xs++[x])):=by
 rw [wD,z6t,ha,Rb];simp only;rw [hb,Rb];simp only [at_];rw [_f ⟨hx,by simp [cap];omega⟩];rfl
theorem z90{f g:FS}{t:FT}{Z:Ev}{s:Sto}(h:t Z s=.ok true s):fIf t f g Z s=f Z s:=by rw [zcL,h,Rb,_f rfl]
section
variable {n m:Nat}{v:List Int}{d e:D}(h:LotB n m v)(D:LD d v)(hm:m<=1999){a0 a1 a2 a3 a4 a5 a6 a7 a8 a9 a10 a11 a12:Option Dd.D}(s:Sto){b:Nat}(hb:b<v.length)
include h hm in
theorem zdP{i:Nat}(hi:i<v.length):0<=v.getD i 0/\v.getD i 0<2 ^ 2000:=by
 refine ⟨h.nn _ (Pm.getD_mem hi),_bG (h.bd _ (Pm.getD_mem hi)) ?_⟩;have:(2:Nat) ^ m<=2 ^ 2000:=_af (by decide) (by omega);have:=Int.ofNat_le.mpr this;simpa using this
include h in
theorem zkk:yM (EV a0 a1 (some (.int v.length)) a3 a4 a5 a6 a7 a8 a9 a10 a11 a12) s=.ok (.nx (EV a0 a1 (some (.int v.length)) a3 a4 a5 a6 a7 (some (.loc (s++[[Dd.D.int 0]]).length)) a9 a10 a11 a12)) ((s++[[Dd.D.int 0]])++[iL (List.replicate v.length 0)]):=by
 have l4:=h.toLot.le4;have e0:z7l (za (eC (.int 0)) zi) (EV a0 a1 (some (.int v.length)) a3 a4 a5 a6 a7 a8 a9 a10 a11 a12) s=.ok (.loc s.length) (s++[[Dd.D.int 0]]):=by
  simp only [z3F,zu,zF,z1u,Rb];rw [_f ⟨by simp [cap],ye [0]⟩]
 have e1:z8J (.loc s.length) (.int v.length) (s++[[Dd.D.int 0]])=.ok (.loc (s++[[Dd.D.int 0]]).length) ((s++[[Dd.D.int 0]])++[iL (List.replicate v.length 0)]):=by
  have lo:Dd.listOf (s++[[Dd.D.int 0]]) (.loc s.length)=some [Dd.D.int 0]:=by simp [Dd.listOf]
  simp only [z8J,lo,_bo,zdn];rw [_f ⟨by simp [cap];omega,by omega,by omega,ye _⟩]
 rw [yM,zK,xN,e0,Rb,vr (d:=.int v.length) rfl,Rb,e1];rfl
include h D hm hb
theorem zfO {S0:Sto} {all:List Dd.D}:∀ (ps:List Nat) (xs:List Int) (p9:Option Dd.D),(∀ i∈ps,i<v.length)->xs.length=v.length-> ∃ p9',wU [] all (fun d Z s=>(wo 9 d Z s).bind fun Z' s'=>yH Z' s') (nL ps) (EV a0 (some d) a2 a3 a4 (some (.int b)) a6 a7 (some (.loc S0.length)) p9 a10 a11 a12) (S0++[iL xs]) = .ok (.nx (EV a0 (some d) a2 a3 a4 (some (.int b)) a6 a7 (some (.loc S0.length)) p9' a10 a11 a12)) (S0++[iL (if 0<v.getD b 0 then z9X v (v.getD b 0) ps xs else xs)])
 | [],xs,p9,_,_=>⟨p9,by simp [wU,okG,z9X]⟩ | i::ps,xs,p9,hi,hl=>by
  have i0:=hi i (.head _);have B:=zdP h hm hb;have S:=(S0++[iL xs]);have ixb:=D.ix (S0++[iL xs]) b hb;have ixi:=D.ix (S0++[iL xs]) i i0;have tst:tOf (eOp dGt (eOp dIx (zc 1) (zc 5)) (eC (.int 0))) (EV a0 (some d) a2 a3 a4 (some (.int b)) a6 a7 (some (.loc S0.length)) (some (.int i)) a10 a11 a12) (S0++[iL xs])=.ok (decide (0<v.getD b 0)) (S0++[iL xs]):=by simp only [qh,xN,xo,z1u,_n,_m,Rb,ixb,zhe]
  by_cases q:0<v.getD b 0
  ·obtain ⟨p9',ih⟩:=zfO (S0:=S0) (all:=all) ps (xs.set i (v.getD i 0 / v.getD b 0)) (some (.int i)) (fun j hj=>hi j (.tail _ hj)) (by simpa using hl);refine ⟨p9',?_⟩;have body:yH (EV a0 (some d) a2 a3 a4 (some (.int b)) a6 a7 (some (.loc S0.length)) (some (.int i)) a10 a11 a12) (S0++[iL xs])=.ok (.nx (EV a0 (some d) a2 a3 a4 (some (.int b)) a6 a7 (some (.loc S0.length)) (some (.int i)) a10 a11 a12)) (S0++[iL (xs.set i (v.getD i 0 / v.getD b 0))]):=by
    rw [yH,z90 (by rw [tst];simp only [q,_cV]),jG];rw [z9H (s1:=S0++[iL xs]) (s2:=S0++[iL xs]) (L:=S0.length) (xs:=xs) (i:=(i:Int)) (x:=v.getD i 0 / v.getD b 0) (by
     rw [xN,op2 (x:=d) (y:=.int i) (vr rfl) (vr rfl),ixi,Rb,op2 (x:=d) (y:=.int b) (vr rfl) (vr rfl),ixb,Rb];exact zaI _ q B.2) (vr rfl) (vr rfl) (by simp) (by omega) (by omega)];congr 1;rw [_aG _ _ (by omega)];simp
   rw [show nL (i::ps)=Dd.D.int i::nL ps from rfl,wU,_f (by intro p hp;simp at hp),z6m,Rb];simp only [_aV,_aU];rw [body,Rb];simp only;rw [ih];simp only [q,_H];rfl
  ·obtain ⟨p9',ih⟩:=zfO (S0:=S0) (all:=all) ps xs (some (.int i)) (fun j hj=>hi j (.tail _ hj)) hl;refine ⟨p9',?_⟩;have body:yH (EV a0 (some d) a2 a3 a4 (some (.int b)) a6 a7 (some (.loc S0.length)) (some (.int i)) a10 a11 a12) (S0++[iL xs])=.ok (.nx (EV a0 (some d) a2 a3 a4 (some (.int b)) a6 a7 (some (.loc S0.length)) (some (.int i)) a10 a11 a12)) (S0++[iL xs]):=by
    rw [yH,zcX (by rw [tst];simp only [q,_cr])];rfl
   rw [show nL (i::ps)=Dd.D.int i::nL ps from rfl,wU,_f (by intro p hp;simp at hp),z6m,Rb];simp only [_aV,_aU];rw [body,Rb];simp only;rw [ih];simp only [q,_ak]
omit h D hm
theorem zam(Q:List Int)(hQ:Q.length=v.length)(z:Int):((enP v).map fun p:Int×Nat=>Dd.D.int (p.1-Q.getD p.2 0*z))=iL (List.zipWith (fun x q=>x-q*z) v Q):=by
 apply _aI;·simp [enP,hQ]
 ·intro i h1 h2;have hi:i<v.length:=by simpa [enP] using h1
  simp [enP,_k,hQ,hi]
include h D hm
theorem zkt {Q:List Int} {L:Nat} (hs:s[L]? = some (iL Q)) (hQ:Q.length=v.length) (hq:∀ q∈Q,0<=q/\q<2 ^ m): yK (EV a0 (some d) a2 a3 a4 (some (.int b)) a6 a7 (some (.loc L)) a9 a10 a11 a12) s=.ok (.nx (EV a0 (some d) a2 a3 a4 (some (.int b)) a6 a7 (some (.loc L)) a9 (some (.lst (iL (left v Q b)))) a11 a12)) s:=by
 have l4:=h.toLot.le4;have B:=zdP h hm hb;have ixb:=D.ix s b hb;have c:=comp_map (s:=s) (mp:=[some 8,some 1,some 5,none,none]) (fg:=xW 3 4) (fe:=eOp z9U (zc 4) (eOp uo (eOp dIx (zc 0) (zc 3)) (eOp dIx (zc 1) (zc 2)))) (fun p:Int×Nat=>Dd.D.tup [.int ((p.2:Nat):Int),.int p.1]) (fun p=>Dd.D.int (p.1-Q.getD p.2 0*v.getD b 0)) (fun p=>[some (.loc L),some d,some (.int b),some (.int ((p.2:Nat):Int)),some (.int p.1)]) (enP v) (z7Z (f:=zc 1) (Z:=EV a0 (some d) a2 a3 a4 (some (.int b)) a6 a7 (some (.loc L)) a9 a10 a11 a12) (by rw [<- D.eq];exact vr rfl)) (fun p _=>by simp) (fun p hp=>by
   have g:=z7u.mp hp;have hi:p.2<Q.length:=by rw [hQ];exact (_b.mp g).1
   have e1:=z9W (s:=s) (l:=L) (i:=(p.2:Int)) (d:=.int (Q.getD p.2 0)) hs (by omega) (by simp [_k,hi]);have q1:=hq _ (Pm.getD_mem hi);have q2:Q.getD p.2 0<2 ^ 2000:=_bG q1.2 (by
    have:(2:Nat) ^ m<=2 ^ 2000:=_af (by decide) (by omega);have:=Int.ofNat_le.mpr this;simpa using this);rw [xN,vr (d:=.int p.1) rfl,Rb,xN,op2 (x:=.loc L) (y:=.int p.2) (vr rfl) (vr rfl),e1,Rb,op2 (x:=d) (y:=.int b) (vr rfl) (vr rfl),ixb,Rb,z0m s q1.1 q2 B.1 B.2,Rb];simp) (by simp [enP,cap];omega);rw [zam hb Q hQ] at c;rw [yK,zK,c];rfl
end
theorem zbG{α:Type}{fi:FI}{mp:List (Option Nat)}{fg:FG}{fe:FE}{Z:Ev}{s:Sto}(g f:α->D)(ev:α->Ev)(l:List α) (hi:fi Z s=.ok (l.map g,[]) s)(hg:∀ a∈l,fg (g a) (zU mp Z) s=.ok (ev a) s)(he:∀ a∈l,fe (ev a) s=.ok (f a) s)(hl:l.length<=cap)(hf:D.flat.flats (l.map f)=true): z1U fi mp fg qj fe Z s=.ok (.loc s.length) (s++[l.map f]):=by
 rw [zcd,z0p,hi,Rb];rw [uu g f (fun _=>true) l [] (by
  intro a ha;simp only [hg a ha,Rb];simp [he a ha]) (by simpa using hl)];rw [show l.filter (fun _=>true)=l from _bv.mpr (by simp)];simp only [_aQ,Rb];rw [_f hf]
theorem z7Q(xs:List D)(k:Nat):cutD xs none (some (k:Int))=xs.take k:=by
 have:=z6T xs k [];simpa [dSl] using this
theorem z8v(xs:List D)(k:Nat):cutD xs (some (k:Int)) none=xs.drop k:=by
 have:=z4M xs k [];simpa [dSl] using this
theorem z5p{line:List Int}{b:Nat}(hb:b<line.length)(q:Int):z15 b line q=line.set b (line.getD b 0+q):=by
 unfold z15;rw [_bJ,_f hb];simp
def yx(n i:Nat):List Int:=(List.range n).map fun c=>if i=c then 1 else 0
theorem zec{x:D}{xs:List D}{k:Nat}{Z:Ev}{s:Sto}(hx:Z[k]? = some (some x))(hl:Dd.listOf s x=some xs)(h:x=.lst xs\/∃ l,x=.loc l)(hc:xs.length<=4):eOp qr (eSl (zc k) (qe (eC (.int 1))) yV) (eSl (zc k) yV (qe (eC (.int 1)))) Z s=.ok (.lst (rot xs)) s:=by
 have d1:dSl x (some 1) none s=.ok (.lst (xs.drop 1)) s:=by
  rcases h with rfl | ⟨l,rfl⟩
  ·have:=z8v xs 1;simp only [dSl,hl];exact _aC (fun z=>R.ok (D.lst z) s) this
  ·have:=z8v xs 1;simp only [dSl,hl];exact _aC (fun z=>R.ok (D.lst z) s) this
 have d2:dSl x none (some 1) s=.ok (.lst (xs.take 1)) s:=by
  rcases h with rfl | ⟨l,rfl⟩
  ·have:=z7Q xs 1;simp only [dSl,hl];exact _aC (fun z=>R.ok (D.lst z) s) this
  ·have:=z7Q xs 1;simp only [dSl,hl];exact _aC (fun z=>R.ok (D.lst z) s) this
 rw [xN,zbM,vr hx,Rb,z2b,z1u,Rb];simp only [Rb,qJ];rw [d1,Rb,zbM,vr hx,Rb];simp only [Rb,qJ,z2b,z1u];rw [d2,Rb,zhK,_f (by simp [cap];omega)];rfl
section
variable {n m:Nat}{v:List Int}{d e:D}{r:Rl}(h:LotB n m v)(E:RD e r){a0 a1 a2 a3 a4 a5 a6 a7 a8 a9 a10 a11 a12:Option Dd.D}{b:Nat}(hb:b<v.length){Q:List Int}(hQ:Q.length=v.length)
include h E hb hQ
theorem zka {S:Sto} {L i:Nat} (hL:S[L]? = some (iL Q)) (hi:i<v.length) (A:List D) (hA:A.length<1000) (J:Sto) (p12:Option D): ∃ J' p12',(zn xy (zn xE (zn yp xF))) (EV (some e) a1 (some (.int v.length)) a3 a4 (some (.int b)) a6 a7 (some (.loc L)) (some (.int i)) a10 (some (.loc S.length)) p12) (S++A::J) = .ok (.nx (EV (some e) a1 (some (.int v.length)) a3 a4 (some (.int b)) a6 a7 (some (.loc L)) (some (.int i)) a10 (some (.loc S.length)) p12')) (S++(A++[rD (mvd r (z15 b (yx v.length i) (Q.getD i 0)))])::J'):=by
 have l4:=h.toLot.le4;have ln:(yx v.length i).length=v.length:=by simp [yx]
 have hL':L<S.length:=(_b.mp hL).1;have em:((List.range v.length).map fun c:Nat=>D.int (if i=c then 1 else 0))=iL (yx v.length i):=by simp [yx,_aO]
 have c:=zbG (s:=S++A::J) (mp:=[some 9,none]) (fg:=wo 1) (fe:=zg zeH (za (eOp dEq (zc 0) (zc 1)) zi)) (fun c:Nat=>D.int ((c:Nat):Int)) (fun c:Nat=>D.int (if i=c then 1 else 0)) (fun c=>[some (.int i),some (.int ((c:Nat):Int))]) (List.range v.length) (vY (n:=v.length) (Z:=EV (some e) a1 (some (.int v.length)) a3 a4 (some (.int b)) a6 a7 (some (.loc L)) (some (.int i)) a10 (some (.loc S.length)) p12) (ar:=za (zc 2) zi) (by omega) (by simp)) (fun c _=>by simp) (fun c _=>by
   rw [ur (x:=.bl (decide ((i:Int)=(c:Int)))) (by simp)];by_cases q:i=c;·simp [zeH,q]
   ·have:¬ (i:Int)=(c:Int):=by omega
    simp [zeH,q,this]) (by simp [cap];omega) (by rw [em];exact ye _);rw [em] at c;have f20:xy (EV (some e) a1 (some (.int v.length)) a3 a4 (some (.int b)) a6 a7 (some (.loc L)) (some (.int i)) a10 (some (.loc S.length)) p12) (S++A::J) = .ok (.nx (EV (some e) a1 (some (.int v.length)) a3 a4 (some (.int b)) a6 a7 (some (.loc L)) (some (.int i)) a10 (some (.loc S.length)) (some (.loc (S++A::J).length)))) ((S++A::J)++[iL (yx v.length i)]):=by
  rw [xy,zK,c];rfl
 have aT:((S++A::J)++[iL (yx v.length i)])[(S++A::J).length]? = some (iL (yx v.length i)):=by simp
 have aL:((S++A::J)++[iL (yx v.length i)])[L]? = some (iL Q):=by rw [_a8,_o hL',hL]
 have i1:=z9W (i:=(b:Int)) (d:=.int ((yx v.length i).getD b 0)) aT (by omega) (by simp [_k,ln,hb]);have i2:=z9W (i:=(i:Int)) (d:=.int (Q.getD i 0)) aL (by omega) (by simp [_k,hQ,hi]);have hs21:((S++A::J)++[iL (yx v.length i)]).set (S++A::J).length (iL ((yx v.length i).set (b:Int).toNat ((yx v.length i).getD b 0+Q.getD i 0)))=(S++A::J)++[iL (z15 b (yx v.length i) (Q.getD i 0))]:=by
  rw [_aG _ _ (by omega),z5p (by rw [ln];exact hb)];simp
 have f21:xE (EV (some e) a1 (some (.int v.length)) a3 a4 (some (.int b)) a6 a7 (some (.loc L)) (some (.int i)) a10 (some (.loc S.length)) (some (.loc (S++A::J).length))) ((S++A::J)++[iL (yx v.length i)]) = .ok (.nx (EV (some e) a1 (some (.int v.length)) a3 a4 (some (.int b)) a6 a7 (some (.loc L)) (some (.int i)) a10 (some (.loc S.length)) (some (.loc (S++A::J).length)))) ((S++A::J)++[iL (z15 b (yx v.length i) (Q.getD i 0))]):=by rw [xE,z9H (s1:=(S++A::J)++[iL (yx v.length i)]) (s2:=(S++A::J)++[iL (yx v.length i)]) (L:=(S++A::J).length) (xs:=yx v.length i) (i:=(b:Int)) (x:=(yx v.length i).getD b 0+Q.getD i 0) (by
   rw [xN,op2 (x:=.loc (S++A::J).length) (y:=.int b) (vr rfl) (vr rfl),i1,Rb,op2 (x:=.loc L) (y:=.int i) (vr rfl) (vr rfl),i2,Rb];simp) (vr rfl) (vr rfl) aT (by omega) (by omega),hs21]
 have lt4:(iL (z15 b (yx v.length i) (Q.getD i 0))).length<=4:=by
  rw [z5p (by rw [ln];exact hb)];simp [ln];omega
 generalize hW:iL (z15 b (yx v.length i) (Q.getD i 0))=W at *;have aW:((S++A::J)++[W])[(S++A::J).length]? = some W:=by simp
 have ot:=E.tu ((S++A::J)++[W]);have aA:((S++A::J)++[W])[S.length]? = some A:=by simp
 have fin:∀ (x:D) (row:List Int),x.flat=true->x=rD row->∀ Z:Ev,Z[11]? = some (some (.loc S.length))->(∃ y,Z[12]? = some (some y)/\vb [y] ((S++A::J)++[W])=.ok x ((S++A::J)++[W]))->xF Z ((S++A::J)++[W])=.ok (.nx Z) (S++(A++[x])::(J++[W])):=fun x row fx hx Z h11 ⟨y,h12,g⟩=>by
  rw [xF,zfs (s2:=(S++A::J)++[W]) (L:=S.length) (xs:=A) (x:=x) (vr h11) (by rw [ur (vr h12)];exact g) aA hA fx];have hs24:((S++A::J)++[W]).set S.length (A++[x])=S++(A++[x])::(J++[W]):=by
   rw [_a8,_aG _ _ (by omega)];simp
  rw [hs24]
 by_cases q:r=.tu
 ·refine ⟨J++[W],some (.lst (rot W)),?_⟩;have f22:yp (EV (some e) a1 (some (.int v.length)) a3 a4 (some (.int b)) a6 a7 (some (.loc L)) (some (.int i)) a10 (some (.loc S.length)) (some (.loc (S++A::J).length))) ((S++A::J)++[W]) = .ok (.nx (EV (some e) a1 (some (.int v.length)) a3 a4 (some (.int b)) a6 a7 (some (.loc L)) (some (.int i)) a10 (some (.loc S.length)) (some (.lst (rot W))))) ((S++A::J)++[W]):=by
   rw [yp,z90 (by rw [qh,op2 (x:=e) (y:=.str "turn") (vr rfl) rfl,ot];simp [q]),jH,zK,zec (x:=.loc (S++A::J).length) (xs:=W) (k:=12) rfl (by simp [Dd.listOf]) (.inr ⟨_,rfl⟩) lt4];rfl
  rw [zh f20,zh f21,zh f22];have e1:rD (mvd r (z15 b (yx v.length i) (Q.getD i 0)))=.tup (rot W):=by
   rw [q,z54,<- hW];simp [rot,_c5,_b8]
  rw [e1];exact fin (.tup (rot W)) _ (by rw [<- e1];exact ye _) e1.symm _ rfl ⟨_,rfl,zbp _ _⟩
 ·refine ⟨J++[W],some (.loc (S++A::J).length),?_⟩;have f22:yp (EV (some e) a1 (some (.int v.length)) a3 a4 (some (.int b)) a6 a7 (some (.loc L)) (some (.int i)) a10 (some (.loc S.length)) (some (.loc (S++A::J).length))) ((S++A::J)++[W]) = .ok (.nx (EV (some e) a1 (some (.int v.length)) a3 a4 (some (.int b)) a6 a7 (some (.loc L)) (some (.int i)) a10 (some (.loc S.length)) (some (.loc (S++A::J).length)))) ((S++A::J)++[W]):=by
   rw [yp,zcX (by rw [qh,op2 (x:=e) (y:=.str "turn") (vr rfl) rfl,ot];simp [q])];rfl
  rw [zh f20,zh f21,zh f22];have e1:rD (mvd r (z15 b (yx v.length i) (Q.getD i 0)))=.tup W:=by rw [z3u q,<- hW]
  rw [e1];exact fin (.tup W) _ (by rw [<- e1];exact ye _) (by rw [<- e1]) _ rfl ⟨_,rfl,by simp [vb,zW]⟩
end
def z7t(r:Rl)(b n:Nat)(Q:List Int)(i:Nat):D:=rD (mvd r (z15 b (yx n i) (Q.getD i 0)))
theorem zbe(r:Rl)(b:Nat)(Q:List Int):tD (zgB r b Q)=.tup ((List.range Q.length).map (z7t r b Q.length Q)):=by
 show D.tup _=D.tup _;congr 1;apply _aI;·simp [zgB,one]
 ·intro i h1 h2;have hi:i<Q.length:=by simpa using h2
  simp [zgB,one,z7t,yx,hi]
section
variable {n m:Nat}{v:List Int}{d e:D}{r:Rl}(h:LotB n m v)(E:RD e r){a0 a1 a2 a3 a4 a5 a6 a7 a8 a9 a10 a11 a12:Option Dd.D}{b:Nat}(hb:b<v.length){Q:List Int}(hQ:Q.length=v.length)
include h E hb hQ
theorem ziK {S:Sto} {L:Nat} {all:List D} (hL:S[L]? = some (iL Q)):∀ (k j:Nat) (J:Sto) (p9 p12:Option D),j+k=v.length-> ∃ J' p9' p12',wU [] all (fun d Z s=>(wo 9 d Z s).bind fun Z' s'=>(zn xy (zn xE (zn yp xF))) Z' s') ((List.range' j k).map fun i=>D.int ((i:Nat):Int)) (EV (some e) a1 (some (.int v.length)) a3 a4 (some (.int b)) a6 a7 (some (.loc L)) p9 a10 (some (.loc S.length)) p12) (S++((List.range j).map (z7t r b v.length Q))::J) = .ok (.nx (EV (some e) a1 (some (.int v.length)) a3 a4 (some (.int b)) a6 a7 (some (.loc L)) p9' a10 (some (.loc S.length)) p12')) (S++((List.range (j+k)).map (z7t r b v.length Q))::J')
 | 0,j,J,p9,p12,_=>⟨J,p9,p12,by simp [wU,okG]⟩ | k+1,j,J,p9,p12,hj=>by
  have l4:=h.toLot.le4;obtain ⟨J1,q12,e1⟩:=zka (a1:=a1) (a3:=a3) (a4:=a4) (a6:=a6) (a7:=a7) (a10:=a10) h E hb hQ hL (i:=j) (by omega) ((List.range j).map (z7t r b v.length Q)) (by simp;omega) J p12;obtain ⟨J2,q9,r12,e2⟩:=ziK hL k (j+1) J1 (some (.int j)) q12 (by omega);refine ⟨J2,q9,r12,?_⟩;have es:(List.range j).map (z7t r b v.length Q)++[rD (mvd r (z15 b (yx v.length j) (Q.getD j 0)))]=(List.range (j+1)).map (z7t r b v.length Q):=by
   rw [List.range_succ,_ci];rfl
  rw [es] at e1;rw [List.range'_succ,_s,wU,_f (by intro p hp;simp at hp),z6m,Rb];simp only [_aV,_aU];rw [e1,Rb];simp only;rw [e2,show j+1+k=j+(k+1) by omega]
theorem zk5 (D:LD d v) (hm:m<=1999) {ps:List Nat} (hps:∀ i∈ps,i<v.length) (hq:∀ q∈Q,0<=q/\q<2 ^ m) (eQ:(if 0<v.getD b 0 then z9X v (v.getD b 0) ps (List.replicate v.length 0) else List.replicate v.length 0)=Q) (s:Sto): ∃ s',(zn yM (zn yR (zn yK (zn yO (zn yL (zn yc yP)))))) (EV (some e) (some d) (some (.int v.length)) a3 a4 (some (.int b)) a6 (some (.lst (nL ps))) a8 a9 a10 a11 a12) s = .ok (.rt (.tup [rD (mvd r (left v Q b)),tD (zgB r b Q)])) s'/\s'.take s.length=s:=by
 have l4:=h.toLot.le4;have f13:=zkk (a0:=some e) (a1:=some d) (a3:=a3) (a4:=a4) (a5:=some (.int b)) (a6:=a6) (a7:=some (.lst (nL ps))) (a8:=a8) (a9:=a9) (a10:=a10) (a11:=a11) (a12:=a12) h s;obtain ⟨p9,f14⟩:=zfO (a0:=some e) (a2:=some (.int v.length)) (a3:=a3) (a4:=a4) (a6:=a6) (a7:=some (.lst (nL ps))) (a10:=a10) (a11:=a11) (a12:=a12) h D hm hb (S0:=s++[[Dd.D.int 0]]) (all:=nL ps) ps (List.replicate v.length 0) a9 hps (by simp);rw [eQ] at f14;have g14:yR (EV (some e) (some d) (some (.int v.length)) a3 a4 (some (.int b)) a6 (some (.lst (nL ps))) (some (.loc (s++[[Dd.D.int 0]]).length)) a9 a10 a11 a12) ((s++[[Dd.D.int 0]])++[iL (List.replicate v.length 0)]) = .ok (.nx (EV (some e) (some d) (some (.int v.length)) a3 a4 (some (.int b)) a6 (some (.lst (nL ps))) (some (.loc (s++[[Dd.D.int 0]]).length)) p9 a10 a11 a12)) ((s++[[Dd.D.int 0]])++[iL Q]):=by
  rw [yR,kQ,ve (xs:=nL ps) (vr rfl),Rb];exact f14
 generalize hS:(s++[[Dd.D.int 0]])++[iL Q]=S at *;have hL:S[(s++[[Dd.D.int 0]]).length]? = some (iL Q):=by rw [<- hS];simp
 have hpre:s <+: S:=by
  rw [<- hS,_a8];exact List.prefix_append _ _
 generalize hLL:(s++[[Dd.D.int 0]]).length=L at *;have f17:=zkt (a0:=some e) (a2:=some (.int v.length)) (a3:=a3) (a4:=a4) (a6:=a6) (a7:=some (.lst (nL ps))) (a9:=p9) (a10:=a10) (a11:=a11) (a12:=a12) h D hm S hb hL hQ hq;have f18:yO (EV (some e) (some d) (some (.int v.length)) a3 a4 (some (.int b)) a6 (some (.lst (nL ps))) (some (.loc L)) p9 (some (.lst (iL (left v Q b)))) a11 a12) S = .ok (.nx (EV (some e) (some d) (some (.int v.length)) a3 a4 (some (.int b)) a6 (some (.lst (nL ps))) (some (.loc L)) p9 (some (.lst (iL (left v Q b)))) (some (.loc S.length)) a12)) (S++((List.range 0).map (z7t r b v.length Q))::[]):=by
  rw [yO,zK,z3F,zF,Rb,_f ⟨by simp,rfl⟩];rfl
 obtain ⟨J,q9,q12,f19⟩:=ziK (a1:=some d) (a3:=a3) (a4:=a4) (a6:=a6) (a7:=some (.lst (nL ps))) (a10:=some (.lst (iL (left v Q b)))) h E hb hQ (all:=(List.range v.length).map fun i:Nat=>Dd.D.int ((i:Nat):Int)) hL v.length 0 [] p9 a12 (by omega);have g19:yL (EV (some e) (some d) (some (.int v.length)) a3 a4 (some (.int b)) a6 (some (.lst (nL ps))) (some (.loc L)) p9 (some (.lst (iL (left v Q b)))) (some (.loc S.length)) a12) (S++((List.range 0).map (z7t r b v.length Q))::[]) = .ok (.nx (EV (some e) (some d) (some (.int v.length)) a3 a4 (some (.int b)) a6 (some (.lst (nL ps))) (some (.loc L)) q9 (some (.lst (iL (left v Q b)))) (some (.loc S.length)) q12)) (S++((List.range (0+v.length)).map (z7t r b v.length Q))::J):=by
  rw [yL,kQ,vY (n:=v.length) (s1:=S++((List.range 0).map (z7t r b v.length Q))::[]) (by omega) (by simp),Rb];rw [List.range_eq_range'] at f19 ⊢;exact f19
 rw [_W] at g19;have aM:(S++((List.range v.length).map (z7t r b v.length Q))::J)[S.length]? = some ((List.range v.length).map (z7t r b v.length Q)):=by simp
 refine ⟨S++((List.range v.length).map (z7t r b v.length Q))::J,?_,?_⟩
 ·generalize hT:S++((List.range v.length).map (z7t r b v.length Q))::J=T at *;have ot:=E.tu T;have fin:∀ w:List Int,yP (EV (some e) (some d) (some (.int v.length)) a3 a4 (some (.int b)) a6 (some (.lst (nL ps))) (some (.loc L)) q9 (some (.lst (iL w))) (some (.loc S.length)) q12) T=.ok (.rt (.tup [rD w,tD (zgB r b Q)])) T:=fun w=>by
   have e1:vb [.lst (iL w)] T=.ok (rD w) T:=zbp _ _;have e2:vb [.loc S.length] T=.ok (tD (zgB r b Q)) T:=by
    rw [zbe,hQ];simp only [vb,zW,aM]
   rw [yP,xT,vJ,zu,ur (x:=.lst (iL w)) (vr rfl),e1,Rb,zu,ur (x:=.loc S.length) (vr rfl),e2,Rb,zF];simp only [Rb];rw [_f (by simp [cap])];rfl
  rw [zh f13,zh g14,zh f17,zh f18,zh g19];have lw:(left v Q b).length=v.length:=by simp [left,hQ]
  by_cases q:r=.tu
  ·have f25:yc (EV (some e) (some d) (some (.int v.length)) a3 a4 (some (.int b)) a6 (some (.lst (nL ps))) (some (.loc L)) q9 (some (.lst (iL (left v Q b)))) (some (.loc S.length)) q12) T=.ok (.nx (EV (some e) (some d) (some (.int v.length)) a3 a4 (some (.int b)) a6 (some (.lst (nL ps))) (some (.loc L)) q9 (some (.lst (iL (mvd r (left v Q b))))) (some (.loc S.length)) q12)) T:=by
    have e3:rot (iL (left v Q b))=iL (mvd r (left v Q b)):=by
     rw [q,z54];simp [rot,_c5,_b8]
    rw [yc,z90 (by rw [qh,op2 (x:=e) (y:=.str "turn") (vr rfl) rfl,ot];simp [q]),jz,zK,zec (x:=.lst (iL (left v Q b))) (xs:=iL (left v Q b)) (k:=10) rfl (by simp [Dd.listOf]) (.inl rfl) (by simp [lw];omega),e3];rfl
   rw [zh f25];exact fin _
  ·have f25:yc (EV (some e) (some d) (some (.int v.length)) a3 a4 (some (.int b)) a6 (some (.lst (nL ps))) (some (.loc L)) q9 (some (.lst (iL (left v Q b)))) (some (.loc S.length)) q12) T=.ok (.nx (EV (some e) (some d) (some (.int v.length)) a3 a4 (some (.int b)) a6 (some (.lst (nL ps))) (some (.loc L)) q9 (some (.lst (iL (left v Q b)))) (some (.loc S.length)) q12)) T:=by
    rw [yc,zcX (by rw [qh,op2 (x:=e) (y:=.str "turn") (vr rfl) rfl,ot];simp [q])];rfl
   rw [zh f25,z3u q];exact fin _
 ·obtain ⟨t,rfl⟩:=hpre;rw [_a8];simp
end
theorem zcA(w:List Int)(T:Tb):(D.tup [rD w,tD T]).flat=true:=by
 have h1:(rD w).flat=true:=ye _;have h2:(tD T).flat=true:=by
  show D.flat.flats (T.map rD)=true;induction T with
  | nil=>rfl | cons r T ih=>
   show ((rD r).flat&&D.flat.flats (T.map rD))=true;rw [ih,Bool.and_true];exact ye r
 show ((rD w).flat&&((tD T).flat&&D.flat.flats []))=true;rw [h1,h2];rfl
section
variable {n m:Nat}{v:List Int}(r:Rl)(h:LotB n m v)(he:ended v=false)(hm:m<=1999)
include h he hm
theorem zeS (s:Sto):xL [.str (nmR r),rD v] s=.ok (.tup [rD (stp r v),tD (z7w r v)]) s:=by
 have key:∀ d e:D,LD d v->RD e r->xL [e,d] s=.ok (.tup [rD (stp r v),tD (z7w r v)]) s:=fun d e D E=>by
  have l4:=h.toLot.le4;have st:zt ["_law_rule","_law_lot_here","_law_size","_law_order","_law_top","_law_by","_law_most","_law_some","_law_quotients","_law_place","_law_later","_law_lines","_law_line"] [e,d]=EV (some e) (some d) none none none none none none none none none none none:=rfl;have f1:=zlg (a0:=some e) (a2:=none) (a3:=none) (a4:=none) (a5:=none) (a6:=none) (a7:=none) (a8:=none) (a9:=none) (a10:=none) (a11:=none) (a12:=none) h.toLot D s;obtain ⟨qs,f2,hmm,pw⟩:=zcs h.toLot he (EV (some e) (some d) (some (.int v.length)) none none none none none none none none none none) s (by rw [<- D.eq];rfl);have f2':vh (EV (some e) (some d) (some (.int v.length)) none none none none none none none none none none) s=.ok (.nx (EV (some e) (some d) (some (.int v.length)) (some (.lst (qs.map pD))) none none none none none none none none none)) s:=f2;have ql:qs.length<=4:=by
   have nd:qs.Nodup:=pw.imp fun {a b} q z=>by rw [z,za4] at q;cases q
   have h2:=zdM h.toLot he;have:qs.length<=(z4c v).length:=List.Nodup.length_le_of_subset nd fun a ha=>(hmm a).mp ha;omega
  have f3:=zlu (a0:=some e) (a3:=some (.lst (qs.map pD))) (a4:=none) (a5:=none) (a6:=none) (a7:=none) (a8:=none) (a9:=none) (a10:=none) (a11:=none) (a12:=none) h.toLot D s;obtain ⟨uh,eh⟩:=z8e h.nn h.toLot.nzne hmm pw;have f4:=zlt (v:=v) (a1:=some d) (a2:=some (.int v.length)) (a4:=some (.int (gp v))) (a5:=none) (a6:=none) (a7:=none) (a8:=none) (a9:=none) (a10:=none) (a11:=none) (a12:=none) s E eh;have dl:=jO r h.toLot he;have qb:=zh8 r h he;have fin:∀ (a6:Option Dd.D) (ps:List Nat),(∀ i∈ps,i<v.length)->(if 0<v.getD (deal r v).1 0 then z9X v (v.getD (deal r v).1 0) ps (List.replicate v.length 0) else List.replicate v.length 0)=yk v (deal r v)-> (zn xk (zn xn (zn wH (zn yQ (zn yM (zn yR (zn yK (zn yO (zn yL (zn yc yP)))))))))) (EV (some e) (some d) (some (.int v.length)) (some (.lst (qs.map pD))) (some (.int (gp v))) (some (zdS v r)) none none none none none none none) s = (zn yM (zn yR (zn yK (zn yO (zn yL (zn yc yP)))))) (EV (some e) (some d) (some (.int v.length)) (some (.lst (qs.map pD))) (some (.int (gp v))) (some (.int (((deal r v).1:Nat):Int))) a6 (some (.lst (nL ps))) none none none none none) s-> xL [e,d] s=.ok (.tup [rD (stp r v),tD (z7w r v)]) s:=fun a6 ps hps eQ eF=>by
   obtain ⟨s',et,tk⟩:=zk5 (a3:=some (.lst (qs.map pD))) (a4:=some (.int (gp v))) (a6:=a6) (a8:=none) (a9:=none) (a10:=none) (a11:=none) (a12:=none) h E dl.lt (Q:=yk v (deal r v)) (xA _ _) D hm hps qb eQ s;simp only [xL,zaB,Mof,z0Q,st,_i,_u,_H];rw [zh f1,zh f2',zh f3,zh f4,eF,et];simp only;rw [z3s (zcA _ _),tk];rfl
  have ol:=E.le s;have on:=E.nx s;have oi:=E.in_ s;have no5:r≠.le->∀ x,xk (EV (some e) (some d) (some (.int v.length)) (some (.lst (qs.map pD))) (some (.int (gp v))) x none none none none none none none) s=.ok (.nx (EV (some e) (some d) (some (.int v.length)) (some (.lst (qs.map pD))) (some (.int (gp v))) x none none none none none none none)) s:=fun q x=>by
   rw [xk,zcX (by rw [qh,op2 (x:=e) (y:=.str "least") (vr rfl) rfl,ol];simp [q])];rfl
  have no7:r≠.nx->∀ x,xn (EV (some e) (some d) (some (.int v.length)) (some (.lst (qs.map pD))) (some (.int (gp v))) x none none none none none none none) s=.ok (.nx (EV (some e) (some d) (some (.int v.length)) (some (.lst (qs.map pD))) (some (.int (gp v))) x none none none none none none none)) s:=fun q x=>by
   rw [xn,zcX (by rw [qh,op2 (x:=e) (y:=.str "next") (vr rfl) rfl,on];simp [q])];rfl
  have row11:∀ (x6:Option Dd.D) (b:Nat) (z:Option Dd.D),(r=.nx\/r=.le)->yQ (EV (some e) (some d) (some (.int v.length)) (some (.lst (qs.map pD))) (some (.int (gp v))) (some (.int ((b:Nat):Int))) x6 z none none none none none) s = .ok (.nx (EV (some e) (some d) (some (.int v.length)) (some (.lst (qs.map pD))) (some (.int (gp v))) (some (.int ((b:Nat):Int))) x6 (some (.lst (nL [gp v]))) none none none none none)) s:=fun x6 b z q=>by
   rw [yQ,z90 (by rw [qh,op2 (x:=e) (y:=.tup [.str "next",.str "least"]) (vr rfl) rfl,oi];simp [q]),jC,zK,z29,zu,vr (d:=.int (gp v)) rfl];simp only [Rb,zF];rw [_f (by simp [cap])];rfl
  have no11:∀ (x6:Option Dd.D) (b:Nat) (z:Option Dd.D),¬ (r=.nx\/r=.le)->yQ (EV (some e) (some d) (some (.int v.length)) (some (.lst (qs.map pD))) (some (.int (gp v))) (some (.int ((b:Nat):Int))) x6 z none none none none none) s = .ok (.nx (EV (some e) (some d) (some (.int v.length)) (some (.lst (qs.map pD))) (some (.int (gp v))) (some (.int ((b:Nat):Int))) x6 z none none none none none)) s:=fun x6 b z q=>by
   rw [yQ,zcX (by rw [qh,op2 (x:=e) (y:=.tup [.str "next",.str "least"]) (vr rfl) rfl,oi];simp [q])];rfl
  have row10:=fun (x6:Option Dd.D) (b:Nat)=>zk7 (a0:=some e) (a1:=some d) (a3:=some (.lst (qs.map pD))) (a4:=some (.int (gp v))) (a6:=x6) (a7:=none) (a8:=none) (a9:=none) (a10:=none) (a11:=none) (a12:=none) h.toLot s b;have gpl:=(z7a h.toLot.ne).1;have posd:(deal r v).2≠[]->0<v.getD (deal r v).1 0:=fun q=>dl.pos.resolve_left q;cases hr:r with
  | nx=>
   subst hr;have p0:=posd (by simp [deal]);refine fin (some (.int (maxL (others v)))) [gp v] (by simpa using gpl) (by rw [_f p0,jj];rfl) ?_;have f7:xn (EV (some e) (some d) (some (.int v.length)) (some (.lst (qs.map pD))) (some (.int (gp v))) (some (zdS v .nx)) none none none none none none none) s=.ok (.nx (EV (some e) (some d) (some (.int v.length)) (some (.lst (qs.map pD))) (some (.int (gp v))) (some (.int (((deal .nx v).1:Nat):Int))) (some (.int (maxL (others v)))) none none none none none none)) s:=by
    rw [xn,z90 (by rw [qh,op2 (x:=e) (y:=.str "next") (vr rfl) rfl,on];simp),zh (zlG h.toLot s he hmm pw ql)];exact zla h.toLot s he D
   rw [zh (no5 (by decide) _),zh f7,zh (row10 _ _),zh (row11 _ _ _ (.inl rfl))] | le=>
   subst hr;have p0:=posd (by simp [deal]);refine fin none [gp v] (by simpa using gpl) (by rw [_f p0,jj];rfl) ?_;have f5:xk (EV (some e) (some d) (some (.int v.length)) (some (.lst (qs.map pD))) (some (.int (gp v))) (some (zdS v .le)) none none none none none none none) s=.ok (.nx (EV (some e) (some d) (some (.int v.length)) (some (.lst (qs.map pD))) (some (.int (gp v))) (some (.int (((deal .le v).1:Nat):Int))) none none none none none none none)) s:=by
    rw [xk,z90 (by rw [qh,op2 (x:=e) (y:=.str "least") (vr rfl) rfl,ol];simp)];exact zlA h.toLot s he hmm pw ql
   rw [zh f5,zh (no7 (by decide) _),zh (row10 _ _),zh (row11 _ _ _ (.inr rfl))] | al=>
   subst hr;have p0:0<v.getD (deal .al v).1 0:=by
    obtain ⟨_,l2,l3⟩:=z79 h.toLot.nzne;have:=Pm.wa h.nn (lp v);show 0<v.getD (lp v) 0;omega
   refine fin none (xt v (lp v)) (fun i hi=>(wA.mp hi).1) (by rw [_f p0,jj];rfl) ?_;rw [zh (no5 (by decide) _),zh (no7 (by decide) _),show zdS v .al=Dd.D.int (lp v) from rfl,zh (row10 none (lp v)),zh (no11 _ _ _ (by decide))];rfl | tu=>
   subst hr;refine fin none (xt v 0) (fun i hi=>(wA.mp hi).1) ?_ ?_
   ·by_cases q:v.getD 0 0=0
    ·have e2:deal .tu v=(0,[]):=by
      show (0,if v.getD 0 0=0 then [] else xt v 0)=_;rw [_f q]
     rw [e2,_q (by show ¬ 0<v.getD 0 0;omega),zaa]
    ·have e2:deal .tu v=(0,xt v 0):=by
      show (0,if v.getD 0 0=0 then [] else xt v 0)=_;rw [_q q]
     have:=Pm.wa h.nn 0;rw [e2,_f (by show 0<v.getD 0 0;omega),jj]
   rw [zh (no5 (by decide) _),zh (no7 (by decide) _),show zdS v .tu=Dd.D.int ((0:Nat):Int) from rfl,zh (row10 none 0),zh (no11 _ _ _ (by decide))];rfl
 exact key _ _ (LD.of h.toLot) (RD.of r)
end
end Po
namespace Pr
open L2 Dd Pm Pg Pn Po
section
variable {n:Nat}{v:List Int}(r:Rl)(h:Lot n v)(he:ended v=false)
include h he
end
end Pr
namespace Pn
open L2 Dd Pm Pg
theorem qK:LeM yz yA:=LeM.mof (LeS.if_ LeS.fNo LeS.rfl)
section
variable {d y:D}{s:Sto}
theorem z3b (h:xu [d] s=.ok (.bl false) s):yA [d] s=.ex "NoRule" s:=by
 have st:zt ["thing"] [d]=[some d]:=rfl;simp only [yA,z3E,kM,st,_i,_u,_H,jB,zcL,z8G,qh,ur (x:=d) (vr (Z:=[some d]) (i:=0) (s:=s) rfl),h,Rb];rfl
end
end Pn
namespace Po
open L2 Dd Pm Pg Pn
theorem zcZ {n:Nat} {v:List Int} (h:Lot n v) (s:Sto):xg [rD v] s=.ok (.bl (ended v)) s:=by
 have l4:=h.le4;have key:∀ d:D,d=rD v->xg [d] s=.ok (.bl (ended v)) s:=fun d hd=>by
  have st:zt ["_law_lot_here"] [d]=[some d]:=rfl;have c:=wL (s:=s) (Z:=[some d]) (fi:=xb (zc 0)) (mp:=[none]) (fg:=wo 0) (ft:=tOf (eOp dGt (zc 0) (eC (.int 0)))) (fe:=zc 0) D.int D.int (fun x=>decide (0<x)) (fun x=>[some (.int x)]) v (z8z (by rw [show D.tup (v.map D.int)=d from hd.symm];exact vr rfl)) (fun x _=>by simp) (fun x _=>by simp) (fun x _ _=>by simp) (by simp [cap];omega);have e:v.filter (fun x=>decide (0<x))=nz v:=by
   refine List.filter_congr fun x hx=>?_;have:=h.nn x hx;by_cases q:x=0;·simp [q]
   ·have:0<x:=by omega
    simp [q,this]
  rw [e] at c;have lb:decide (((nz v).length:Int)=1)=ended v:=by
   unfold ended;by_cases e:(nz v).length=1;·simp [e]
   ·have:¬ ((nz v).length:Int)=1:=by omega
    simp [e,this]
  simp only [xg,Mof,kL,st,_i,_u,_H,jF,xT,xN,ur c,ue,zW,Rb,z1u,z7e,_B,lb]
 exact key _ rfl
def rls:List Rl:=[.al,.le,.nx,.tu]
theorem zcn(s:Sto):xS [] s=.ok (.lst (rls.map fun r=>D.str (nmR r))) s:=by
 have c4:(4:Nat)<=cap:=by decide
 have st:zt [] []=[]:=rfl;simp only [xS,Mof,kg,st,_u,_H,jx,xT,z29,zu,zF,z1u,Rb,_i,_W,Nat.reduceAdd,_f c4];rfl
open PySem.Builtin.Str
def noR(r:Rl):List D:=[.str (Txt.upper (nmR r)),.str (nmR r++" "),.str (Txt.slice (nmR r) (some 1) none),.str (nmR r++"s"),.str "",.non,.int 3,.tup [.str (nmR r)],.lst [.str (nmR r)],.bl true,.dct]
theorem zhw{r:Rl}{d:D}(h:d∈noR r)(s:Sto):xu [d] s=.ok (.bl false) s:=by
 simp only [noR,_z,_bt,or_false] at h;cases r<;>rcases h with rfl | rfl | rfl | rfl | rfl | rfl | rfl | rfl | rfl | rfl | rfl<;>kernel_rfl
theorem zal {s:Sto} {l:Nat} (r:Rl) (h:Pot s l):∃ d s',xz [.loc l,.str (nmR r)] s=.ok d s'/\d∈noR r/\z5k s s' l:=by
 have st:zt ["_law_pot_here","_law_rule","_law_some"] [.loc l,.str (nmR r)]=[some (.loc l),some (.str (nmR r)),none]:=rfl;have q1:qm [some (.loc l),some (.str (nmR r)),none] s=.ok (.nx [some (.loc l),some (.str (nmR r)),some (.lst (noR r))]) s:=by cases r<;>kernel_rfl
 obtain ⟨x,s',e,a,b,dr⟩:=z66 (f:=zc 0) (g:=eC (.int 11)) (far:=11) (Z:=[some (.loc l),some (.str (nmR r)),some (.lst (noR r))]) h (by decide) (zdg (by decide)) (by simp) (by simp);have hr:x.toNat<(noR r).length:=by simp [noR];omega
 have ix:=z3p (xs:=noR r) (d:=(noR r)[x.toNat]) (s:=s') a (by simp [hr]);refine ⟨(noR r)[x.toNat],s',?_,_b3 hr,dr⟩;simp only [xz,Mof,qw,st,_i,_u,_H];rw [zh q1,qo,xT,xN];simp only [xo,_m,_n,Rb];rw [e,Rb,ix,Rb]
theorem zhA {s:Sto} {l:Nat} {f:FE} {Z:Ev} (h:Pot s l) (hf:f Z s=.ok (.loc l) s):∃ r s',eOp dIx (zg xS zi) (zg zL (za f (za (eC (.int 4)) zi))) Z s=.ok (.str (nmR r)) s'/\z5k s s' l:=by
 obtain ⟨x,s',e,a,b,dr⟩:=z66 (f:=f) (g:=eC (.int 4)) (far:=4) (Z:=Z) h (by decide) (zdg (by decide)) hf (by simp);have hr:x.toNat<rls.length:=by simp [rls];omega
 refine ⟨rls[x.toNat],s',?_,dr⟩;have ix:=z3p (xs:=rls.map fun r=>D.str (nmR r)) (d:=.str (nmR rls[x.toNat])) (s:=s') a (by simp [hr]);rw [xN,wE,zF,Rb,zcn,Rb,e,Rb,ix]
end Po
namespace Po
open L2 Dd Pm Pg Pn
theorem zc0{α:Type}{G:List (Nat×List D)}{all:List D}{body:D->Sto->R (Option D)}{s:Sto}(og:okG G all s)(g f:α->D):∀ (l:List α)(acc:List D),(∀ x∈l,body (g x) s=.ok (some (f x)) s)->acc.length+l.length<=cap->wm G all body (l.map g) acc s=.ok (acc++l.map f) s
 | [],acc,_,_=>by simp [wm,og] | x::xs,acc,hb,hl=>by
  have ih:=zc0 (all:=all) og g f xs (acc++[f x]) (fun y hy=>hb y (by simp [hy])) (by simp at hl ⊢;omega);have hc:acc.length<cap:=by simp at hl;omega
  rw [_s,wm,_f og,hb x (by simp),Rb];simp only [_f hc,ih];simp
theorem zag{α:Type}{G:List (Nat×List D)}{fi:FI}{mp:List (Option Nat)}{fg:FG}{fe:FE}{Z:Ev}{s:Sto}(g f:α->D)(ev:α->Ev)(l:List α) (hi:fi Z s=.ok (l.map g,G) s)(og:okG G (l.map g) s)(hg:∀ a∈l,fg (g a) (zU mp Z) s=.ok (ev a) s)(he:∀ a∈l,fe (ev a) s=.ok (f a) s)(hl:l.length<=cap): zD fi mp fg qj fe Z s=.ok (.lst (l.map f)) s:=by
 rw [kO,z0p,hi,Rb];rw [zc0 og g f l [] (by
  intro a ha;simp only [hg a ha,Rb];show (R.ok true s).bind _=_;simp [he a ha]) (by simpa using hl)];rfl
theorem z3A:∀ ps:List (D×D),z50 (ps.map Prod.fst) (ps.map Prod.snd)=ps.map fun p=>D.tup [p.1,p.2]
 | []=>rfl | p::ps=>by rw [_s,_s,z50,z3A ps];rfl
section
variable {n m:Nat}{r:Rl}{v:List Int}{ls:List (List Int)}
abbrev RV(d e:D)(L:Nat)(a4 a5:Option D):Ev:=[some d,some e,some (.loc L),some (.loc (L+1)),a4,a5]
theorem zbT{s:Sto}{x y z:List D}:(s++[x,y]).set s.length z=s++[z,y]/\(s++[x,y]).set (s.length+1) z=s++[x,z]:=by
 constructor;·rw [_aG _ _ (by omega)];simp
 ·rw [_aG _ _ (by omega)];simp
theorem z4k{s:Sto}{x y:List D}:(s++[x,y])[s.length]? = some x/\(s++[x,y])[s.length+1]? = some y:=by
 constructor;·simp
 ·rw [_T (by omega)];simp
theorem zb5 {d e:D} (hd:d=.str (nmR r)) (hm:m<=1999) (s:Sto) {c:List Int} (Rn:Run r c ls):∀ (pre:List (List Int)) (pt:List Tb) (a4 a5:Option D),LotB n m c->pre.length+ls.length<=50000->pt.length+ls.length<=50000-> ∃ b4 b5,vq (z1c (tOf (zg xg (za (eOp dIx (zc 2) (z2K (eC (.int 1)))) zi)))) (zn yy (zn xP xV)) (ls.length+1) (RV d e s.length a4 a5) (s++[(pre++[c]).map rD,pt.map tD])=.ok (.nx (RV d e s.length b4 b5)) (s++[(pre++ls).map rD,(pt++vR r ls).map tD]):=by
 have tst:∀ (pre:List (List Int)) (pt:List Tb) (c:List Int) (a4 a5:Option D),LotB n m c->eOp dIx (zc 2) (z2K (eC (.int 1))) (RV d e s.length a4 a5) (s++[(pre++[c]).map rD,pt.map tD])=.ok (rD c) (s++[(pre++[c]).map rD,pt.map tD])/\z1c (tOf (zg xg (za (eOp dIx (zc 2) (z2K (eC (.int 1)))) zi))) (RV d e s.length a4 a5) (s++[(pre++[c]).map rD,pt.map tD])=.ok (!ended c) (s++[(pre++[c]).map rD,pt.map tD]):=fun pre pt c a4 a5 h=>by
  have ix:=z7D (x:=.loc s.length) (d:=rD c) (xs:=pre.map rD) (s:=s++[(pre++[c]).map rD,pt.map tD]) (by rw [zW,z4k.1];simp);have hE:=zcZ h.toLot (s++[(pre++[c]).map rD,pt.map tD]);generalize (s++[(pre++[c]).map rD,pt.map tD])=S at *;have e1:eOp dIx (zc 2) (z2K (eC (.int 1))) (RV d e s.length a4 a5) S=.ok (rD c) S:=by rw [op2 (x:=.loc s.length) (y:=.int (-1)) (vr rfl) (by simp),ix]
  refine ⟨e1,?_⟩;rw [z8G,z2X (b:=ended c) (by rw [ur e1,hE]),Rb]
 induction Rn with
 | @done v hend=>
  intro pre pt a4 a5 h hl hl2;refine ⟨a4,a5,?_⟩;rw [vq,(tst pre pt v a4 a5 h).2,hend];simp [vR] | @step v ls hend Rn ih=>
  intro pre pt a4 a5 h hl hl2;obtain ⟨b4,b5,ih⟩:=ih (pre++[v]) (pt++[z7w r v]) (some (rD (stp r v))) (some (tD (z7w r v))) (h.step r hend) (by simp at hl ⊢;omega) (by simp at hl2 ⊢;omega);refine ⟨b4,b5,?_⟩;rw [_i,vq,(tst pre pt v a4 a5 h).2,hend,Rb,_f (by rfl)];have ls':=zeS r h hend hm (s++[(pre++[v]).map rD,pt.map tD]);rw [<- hd] at ls';have f4:yy (RV d e s.length a4 a5) (s++[(pre++[v]).map rD,pt.map tD])=.ok (.nx (RV d e s.length (some (rD (stp r v))) (some (tD (z7w r v))))) (s++[(pre++[v]).map rD,pt.map tD]):=by
   have e1:=(tst pre pt v a4 a5 h).1;generalize (s++[(pre++[v]).map rD,pt.map tD])=S at *;rw [yy,zev,call2 (x:=d) (y:=rD v) (vr rfl) e1,ls',Rb];rfl
  have f5:xP (RV d e s.length (some (rD (stp r v))) (some (tD (z7w r v)))) (s++[(pre++[v]).map rD,pt.map tD])=.ok (.nx (RV d e s.length (some (rD (stp r v))) (some (tD (z7w r v))))) (s++[(pre++[v]++[stp r v]).map rD,pt.map tD]):=by
   have fl:(rD (stp r v)).flat=true:=ye _;have ln:((pre++[v]).map rD).length<cap:=by simp [cap] at hl ⊢;omega
   rw [xP,wD,z6t];simp only [xo,_n,_m,Rb,z4k.1,_f (show (rD (stp r v)).flat=true/\((pre++[v]).map rD).length<cap from ⟨fl,ln⟩),zbT.1];simp
  have f6:xV (RV d e s.length (some (rD (stp r v))) (some (tD (z7w r v)))) (s++[(pre++[v]++[stp r v]).map rD,pt.map tD])=.ok (.nx (RV d e s.length (some (rD (stp r v))) (some (tD (z7w r v))))) (s++[(pre++[v]++[stp r v]).map rD,(pt++[z7w r v]).map tD]):=by
   have fl:(tD (z7w r v)).flat=true:=zil _;have ln:(pt.map tD).length<cap:=by simp [cap] at hl2 ⊢;omega
   rw [xV,wD,z6t];simp only [xo,_n,_m,Rb,z4k.2,_f (show (tD (z7w r v)).flat=true/\(pt.map tD).length<cap from ⟨fl,ln⟩),zbT.2];simp
  rw [zh f4,zh f5,f6,Rb];simp only;rw [ih,Rn.tabs_cons];simp
theorem zj1(r:Rl)(h:LotB n m v)(Rn:Run r v ls)(hm:m<=1999)(hl:ls.length<=50000)(s:Sto):zT [.str (nmR r),rD v] s=.ok (.tup [.loc s.length,.loc (s.length+1)]) (s++[ls.map rD,(vR r ls).map tD]):=by
 have fl:(rD v).flat=true:=ye _;have key:∀ d e:D,d=.str (nmR r)->e=rD v->zT [d,e] s=.ok (.tup [.loc s.length,.loc (s.length+1)]) (s++[ls.map rD,(vR r ls).map tD]):=fun d e hd he=>by
  have st:zt ["_law_rule","_law_lot_here","_law_lots","_law_tables","_law_later","_law_table"] [d,e]=[some d,some e,none,none,none,none]:=rfl;have fe:e.flat=true:=by rw [he];exact fl
  have f1:wN [some d,some e,none,none,none,none] s=.ok (.nx [some d,some e,some (.loc s.length),none,none,none]) (s++[[e]]):=by
   simp only [wN,zK,z3F,zu,zF,xo,_m,_n,Rb];rw [_f ⟨by simp [cap],by simp [D.flat.flats,fe]⟩];rfl
  have f2:wQ [some d,some e,some (.loc s.length),none,none,none] (s++[[e]])=.ok (.nx (RV d e s.length none none)) (s++[[e],[]]):=by
   simp only [wQ,zK,z3F,zF,Rb];rw [_f ⟨by simp [cap],by simp [D.flat.flats]⟩];simp [RV]
  obtain ⟨b4,b5,lp⟩:=zb5 (e:=e) hd hm s Rn [] [] none none h (by simpa using hl) (by simpa using hl);rw [_aQ,_aQ,_aQ,show ([v]:List (List Int)).map rD=[e] from by rw [he];rfl,_cp] at lp;have f3:xh (RV d e s.length none none) (s++[[e],[]])=.ok (.nx (RV d e s.length b4 b5)) (s++[ls.map rD,(vR r ls).map tD]):=by rw [xh];exact z8q lp (by simp)
  simp only [zT,Mof,wB,st,_i,_u,_H];rw [zh f1,zh f2,zh f3,vW,xT,vJ];simp [RV,cap]
 exact key _ _ rfl rfl
end
end Po
namespace Pr
open L2 Dd Pm Pg Pn Po
section
variable {n m:Nat}{v:List Int}{d e:D}{r:Rl}(h:LotB n m v)(E:RD e r)(D:LD d v){b:Nat}{g:List Nat}(hb:b<v.length)(hg:b∉g)(hp:g=[]\/0<v.getD b 0)(hm:m<=1999)
include h D hb hg hp
include hm E
end
section
variable {n m:Nat}{v:List Int}(r:Rl)(h:LotB n m v)(he:ended v=false)(hm:m<=1999)
include h he hm
end
open PySem.W
theorem zi8{N:Nat}{lt:Nat->Nat->Bool}(tot:∀ i j,i<N->j<N->i≠j->lt j i=!lt i j)(tr:∀ i j k,lt i j=true->lt j k=true->lt i k=true)(hN:1<=N)(h:∀ i j,i<j->j<N->lt i j=true): kev N lt (kas_count N (List.toArray (List.range N)))=some (N,List.toArray (List.range N)):=by
 have P:PmN N (List.toArray (List.range N)):=⟨by simp⟩;have at_:∀ i,i<N->at0 (List.toArray (List.range N)) i=i:=fun i hi=>by simp [at0,hi]
 obtain ⟨m,e1,e2,e3,e4,e5⟩:=zbm tot tr P (N-1) 1 (_g _) (by omega) (fun i j h1 h2=>by omega);have em:m=N:=by
  by_cases q:m<N
  ·exfalso;have z:=e5 (by omega);rw [at_ m q,at_ (m-1) (by omega),tot (m-1) m (by omega) q (by omega),h (m-1) m (by omega) q] at z;cases z
  ·omega
 unfold kas_count;rw [z8i,e1];simp only [_J];rw [_f (by simpa using em),em];rfl
theorem z5b {α β:Type} {all:List D} {s:Sto} {fi2:D->Sto->R ItD} {fb:D->D->Sto->R D} (g:α->D) (g2:α->β->D) (l2:α->List β) (f:α->β->D):∀ (l:List α) (acc:List D),(∀ a∈l,fi2 (g a) s=.ok ((l2 a).map (g2 a),[]) s)->(∀ a∈l,∀ b∈l2 a,fb (g a) (g2 a b) s=.ok (f a b) s)->acc.length+(l.flatMap fun a=>(l2 a).map (f a)).length<=cap-> z47 [] all (fun d acc s=>(fi2 d s).bind fun it2 s2=>wm it2.2 it2.1 (fun d2 s=>(fb d d2 s).bind fun d s3=>.ok (some d) s3) it2.1 acc s2) (l.map g) acc s=.ok (acc++l.flatMap fun a=>(l2 a).map (f a)) s
 | [],acc,_,_,_=>by simp [z47,okG] | x::xs,acc,h1,h2,hl=>by
  have og:okG [] all s:=by intro p hp;simp at hp
  rw [List.flatMap_cons,_X,_B] at hl;rw [_s,z47,_f og,h1 x (by simp),Rb];have c:=uu (s:=s) (all:=(l2 x).map (g2 x)) (body:=fun d2 s=>(fb (g x) d2 s).bind fun d s3=>.ok (some d) s3) (g2 x) (f x) (fun _=>true) (l2 x) acc (fun b hb=>by simp [h2 x (by simp) b hb]) (by omega);rw [c,Rb,_bv.mpr (by simp)];rw [z5b g g2 l2 f xs _ (fun a ha=>h1 a (by simp [ha])) (fun a ha=>h2 a (by simp [ha])) (by simp only [_X,_B];omega)];simp
theorem zb4 {α β:Type} {fi:FI} {mp:List (Option Nat)} {k1 k2:Nat} {fi2:FI} {fe:FE} {Z:Ev} {s:Sto} (g:α->D) (g2:α->β->D) (l:List α) (l2:α->List β) (f:α->β->D) (hi:fi Z s=.ok (l.map g,[]) s) (hi2:∀ a∈l,fi2 ((zU mp Z).set k1 (some (g a))) s=.ok ((l2 a).map (g2 a),[]) s) (he:∀ a∈l,∀ b∈l2 a,fe (((zU mp Z).set k1 (some (g a))).set k2 (some (g2 a b))) s=.ok (f a b) s) (hl:(l.flatMap fun a=>(l2 a).map (f a)).length<=cap):z6s fi mp k1 k2 fi2 fe Z s=.ok (.lst (l.flatMap fun a=>(l2 a).map (f a))) s:=by
 unfold z6s z8b;rw [hi,Rb,z5b (fi2:=fun d s=>fi2 ((zU mp Z).set k1 (some d)) s) (fb:=fun d d2 s=>fe (((zU mp Z).set k1 (some d)).set k2 (some d2)) s) g g2 l2 f l [] hi2 he (by simpa using hl)];rfl
end Pr
namespace Dd
open L2 PySem.W Pm Pr
theorem zf3{L:List (List Int)}(hu:Up L):zi1 L (List.toArray (List.range L.length)):=by
 have nd:=hu.nodup;by_cases q:L.length<2;·exact .inl ⟨q,rfl⟩
 ·refine .inr (.inr ⟨by omega,zi8 (fun i j hi hj hij=>z8F fun z=>hij ?_) (fun i j k=>zat) (by omega) fun i j hij hj=>?_⟩)
  ·simp only [_k,_e hi,_e hj,_aH] at z;exact (_br nd).mp z
  ·have:=List.pairwise_iff_getElem.mp hu i j (by omega) hj hij;simpa [_k,show i<L.length by omega,hj] using this
open Classical in
def z0h:Mir:=fun ds s=>match ds with
 | [d]=>match listOf s d with
  | some xs=>match z55 xs with
   | some L=>if Up L/\(∀ n∈L,n≠[])/\D.flat.flats xs=true then .ok (.loc s.length) (s++[xs]) else .no | none=>.no
  | none=>.no
 | _=>.no
section
variable {X:Cx}{E:XK}
theorem zcf:∃ r,xK X (.builtin "sorted") r/\z1j X E r z0h:=⟨_,z8O,fun H Y s ds vs Q r hd h=>by
 unfold z0h at h;split at h
 ·rename_i d;split at h
  ·rename_i xs ex;split at h
   ·rename_i L eL;split at h
    ·rename_i hp;obtain ⟨v,rfl,dn⟩:=z1P hd;obtain ⟨a,ws,rfl,q1,q2⟩:=zJ r ex dn;have pn:=z6B eL q2;have hl:=z3n pn;have er:(List.toArray (List.range L.length)).toList.map (fun i=>ws.getD i .non)=ws:=by
      apply _aI;·simp [hl]
      ·intro i h1 h2;simp [_k,h2]
     refine ⟨a,ws,L,_,rfl,.inl q1,pn,hp.2.1,zf3 hp.1,fun i hi=>?_,by simp [hl],?_⟩;·simp at hi;omega
     ·rw [er];exact z9C r h hp.2.2 q2
    ·exact h.elim
   ·exact h.elim
  ·exact h.elim
 ·exact h.elim⟩
end
theorem zbs{F:List (List Int)}{s:Sto}(hu:Up F)(ne:∀ v∈F,v≠[])(fl:D.flat.flats (F.map fun v=>D.tup (v.map D.int))=true):z0h [.lst (F.map fun v=>D.tup (v.map D.int))] s=.ok (.loc s.length) (s++[F.map fun v=>D.tup (v.map D.int)]):=by
 have t:z55 (F.map fun v=>D.tup (v.map D.int))=some F:=z6q F;simp only [z0h,listOf,t];rw [_f ⟨hu,ne,fl⟩]
end Dd
namespace Pg
open L2 Dd
@[simp] def jv:FS:=(wS (zg yz (za (zc 0) zi)))
@[simp] def ju:FS:=(wS (zg vp (za (zc 1) (za (eC (.int 4)) zi))))
@[simp] def jr:FS:=(wS (zg wc (za (zc 2) (za (eC (.int 1)) (za (eC (.int 8)) zi)))))
@[simp] def jy:FS:=(yt 3 (zg yN (za (zc 0) (za (zc 1) (za (zc 2) zi)))))
@[simp] def wK:FS:=(yt 4 (zcJ (zc 3)))
@[simp] def ua:FS:=(wZ (qq (za (zc 4) (za (zg z0h (za (zD (z7G (zc 3)) [some 4,some 3,none] (wo 2) (tOf (eOp dEq (z9u (zc 1) (zc 2)) (zc 0))) (zc 2)) zi)) zi))))
def ky:FS:=(zn jv (zn ju (zn jr (zn jy (zn wK ua)))))
def vT:Mir:=Mof ["rule","size","number","steps","most"] 3 ky
@[simp] def wb:FS:=(wS (zg yA (za (zc 0) zi)))
@[simp] def vz:FS:=(wS (zg zY (za (zc 1) (za (eC (.int 4)) zi))))
@[simp] def qu:FS:=(wS (zg zM (za (zc 2) (za (eC (.int 1)) (za (eC (.int 8)) zi)))))
@[simp] def z2e:FS:=(yt 3 (zg wM (za (zc 0) (za (zc 1) (za (zc 2) zi)))))
def wI:FS:=(zn wb (zn vz (zn qu (zn z2e (zn (z2Y wK) (z2Y ua))))))
def zO:Mir:=z3E ["rule","size","number","steps","most"] 3 wI
end Pg
namespace K32
open L2 Dd Pg
def rsX:List Str:=["NoNumber","NoRule","NoSize"]
def csX:List Str:=["NoLot","NoTable","NoTuple","NotAlike","NotFair","NoText","NoRule","Ended","NoBottom","NoRoot","NoCube","NoSize","NoNumber","TooMany","NoStep","NoDeed","NoRow"]
@[simp] def z1n:FS:=(yt 1 (jn (za (z4Y rsX "NoLot" (zc 0)) (za (z4Y rsX "NoTable" (zc 0)) (za (z4Y rsX "NoTuple" (zc 0)) (za (z4Y rsX "NotAlike" (zc 0)) zi))))))
@[simp] def z0V:FS:=(yt 1 (eOp qr (zc 1) (jn (za (z4Y rsX "NotFair" (zc 0)) (za (z4Y rsX "NoText" (zc 0)) (za (z4Y rsX "NoRule" (zc 0)) (za (z4Y rsX "Ended" (zc 0)) zi)))))))
@[simp] def z1h:FS:=(yt 1 (eOp qr (zc 1) (jn (za (z4Y rsX "NoBottom" (zc 0)) (za (z4Y rsX "NoRoot" (zc 0)) (za (z4Y rsX "NoCube" (zc 0)) (za (z4Y rsX "NoSize" (zc 0)) zi)))))))
@[simp] def z1f:FS:=(yt 1 (eOp qr (zc 1) (jn (za (z4Y rsX "NoNumber" (zc 0)) (za (z4Y rsX "TooMany" (zc 0)) (za (z4Y rsX "NoStep" (zc 0)) (za (z4Y rsX "NoDeed" (zc 0)) zi)))))))
@[simp] def z11:FS:=(yt 1 (eOp qr (zc 1) (jn (za (z4Y rsX "NoRow" (zc 0)) zi))))
@[simp] def z17:FS:=(wZ (eC (.str "other")))
@[simp] def z1o:FS:=(fIf (fOr (tOf (eOp dNe (zg4 (zc 1) (eC (.bl true))) (eC (.int 1)))) (z1c (tOf (zkU rsX (zc 0))))) z17 xp)
@[simp] def z14:FS:=(yt 2 (jn (za (eC (.str "lot")) (za (eC (.str "table")) (za (eC (.str "tuple")) (za (eC (.str "alike")) (za (eC (.str "fair")) (za (eC (.str "text")) (za (eC (.str "rule")) (za (eC (.str "ended")) (za (eC (.str "bottom")) zi)))))))))))
@[simp] def z1e:FS:=(yt 2 (eOp qr (zc 2) (jn (za (eC (.str "root")) (za (eC (.str "cube")) (za (eC (.str "size")) (za (eC (.str "number")) (za (eC (.str "many")) (za (eC (.str "step")) (za (eC (.str "deed")) (za (eC (.str "row")) zi)))))))))))
@[simp] def z08:FS:=(wZ (eOp dIx (zc 2) (zfU (zc 1) (eC (.bl true)))))
def z2t:FS:=(zn z1n (zn z0V (zn z1h (zn z1f (zn z11 (zn z1o (zn z14 (zn z1e z08))))))))
def yo:Mir:=Mof ["_law_e","_law_some","_law_words"] 1 z2t
@[simp] def vX:FS:=(yt 2 (jn (za (qq zi) zi)))
@[simp] def xw:FS:=(yt 4 (z7l zi))
@[simp] def wJ:FS:=(wS (zja (zc 4) (zD (z0x (za (eOp qr (zc 1) (eC (.int 1))) zi)) [some 5,none] (wo 1) qj (eOp qr (zc 0) (qq (za (zc 1) zi))))))
@[simp] def xB:FS:=(z73 (xb (zc 2)) (wo 5) wJ)
@[simp] def uf:FS:=(yt 2 (zc 4))
@[simp] def jI:FS:=(z73 (z0x (za (zc 0) zi)) (wo 3) (zn xw (zn xB uf)))
@[simp] def uc:FS:=(wZ (zD (xb (zc 2)) [none] (wo 0) (tOf (eOp dGt (zg vE (za (zc 0) zi)) (eC (.int 0)))) (zc 0)))
def ku:FS:=(zn vX (zn jI uc))
def xQ:Mir:=z7C (Mof ["_law_size","_law_number","_law_rows","_law_place","_law_longer","_law_row"] 2 ku)
@[simp] def wN:FS:=(yt 2 (z7l (za (zc 1) zi)))
@[simp] def wQ:FS:=(yt 3 (z7l zi))
@[simp] def yy:FS:=(zeF (zg Pg.xD (za (zc 0) (za (eOp dIx (zc 2) (z2K (eC (.int 1)))) zi))) (xW 4 5))
@[simp] def xP:FS:=(wS (z9y (zc 2) (zc 4)))
@[simp] def xV:FS:=(wS (z9y (zc 3) (zc 5)))
@[simp] def xh:FS:=(z2v (z1c (tOf (zg Pg.wj (za (eOp dIx (zc 2) (z2K (eC (.int 1)))) zi)))) (zn yy (zn xP xV)))
@[simp] def vW:FS:=(wZ (qq (za (zc 2) (za (zc 3) zi))))
def wB:FS:=(zn wN (zn wQ (zn xh vW)))
def zT:Mir:=Mof ["_law_rule","_law_lot","_law_lots","_law_tables","_law_later","_law_table"] 2 wB
@[simp] def wl:FS:=(wZ (zg Pg.zO (za (zc 0) (za (zc 1) (za (zc 2) zi)))))
@[simp] def uC:FS:=(wZ (zg yo (za (zc 3) zi)))
@[simp] def uE:FS:=(zi2 rsX wl 3 uC)
def qI:FS:=uE
def zI:Mir:=Mof ["_law_rule","_law_size","_law_number","_law_e"] 3 qI
@[simp] def z1J:FS:=(yt 2 (zg Pg.vn (za (zg Pg.yI (za (zc 0) (za (zc 1) zi))) zi)))
@[simp] def z2H:FS:=(yt 3 (eOp dIx (zg Pg.xS zi) (zg Pg.zL (za (zc 2) (za (eC (.int 4)) zi)))))
@[simp] def z2g:FS:=(yt 4 (eOp qr (eC (.int 2)) (zg Pg.zL (za (zc 2) (za (eC (.int 3)) zi)))))
@[simp] def z1O:FS:=(yt 5 (eOp qr (eC (.int 1)) (zg Pg.zL (za (zc 2) (za (eOp dIx (jn (za (eC (.int 8)) (za (eC (.int 8)) (za (eC (.int 4)) zi)))) (eOp z9U (zc 4) (eC (.int 2)))) zi)))))
@[simp] def z21:FS:=(yt 6 (zD (xb (zg xQ (za (zc 4) (za (zc 5) zi)))) [some 3,none] (wo 1) qj (qq (za (zc 1) (za (zg ue (za (eOp dIx (zg zT (za (zc 0) (za (zc 1) zi))) (eC (.int 1))) zi)) zi)))))
@[simp] def z26:FS:=(yt 7 (zg vE (za (zD (xb (zc 6)) [none,none] (xW 0 1) qj (zc 1)) zi)))
@[simp] def z23:FS:=(yt 8 (qq (za (zc 7) (za (zD (xb (zc 6)) [some 7,none,none] (xW 1 2) (tOf (eOp dEq (zc 2) (zc 0))) (zc 1)) zi))))
@[simp] def kr:FS:=(yt 10 (zg zI (za (zc 3) (za (zc 4) (za (zc 5) zi)))))
@[simp] def zd5:FS:=(wZ (eC (.bl false)))
@[simp] def kB:FS:=(fIf (z1c (tOf (zg Pg.uX (za (zc 10) (za (zc 8) zi))))) zd5 xp)
@[simp] def kP:FS:=(wS (z9y (eOp dIx (zc 10) (eC (.int 1))) (qq zi)))
@[simp] def z22:FS:=(z73 (z0x (za (eC (.int 2)) zi)) (wo 9) (zn kr (zn kB kP)))
@[simp] def jd:FS:=(yt 11 (eOp dIx (jn (za (eC (.int 0)) (za (eC (.int 9)) (za (z2K (eC (.int 1))) (za (eC (.bl true)) (za (eC (.bl false)) (za (eC .non) (za (eC (.str "2")) (za (qq (za (eC (.int 2)) zi)) (za (eOp zaS (eC (.int 10)) (eC (.int 30))) (za (jn (za (eC (.int 2)) zi)) zi))))))))))) (zg Pg.zL (za (zc 2) (za (eC (.int 10)) zi)))))
@[simp] def jg:FS:=(yt 12 (eOp dIx (jn (za (eC (.int 1)) (za (eC (.int 5)) (za (eC (.int 0)) (za (z2K (eC (.int 1))) (za (eC (.bl true)) (za (eC .non) (za (eC (.str "3")) (za (qq (za (eC (.int 3)) zi)) (za (eOp zaS (eC (.int 10)) (eC (.int 30))) (za (jn (za (eC (.int 3)) zi)) zi))))))))))) (zg Pg.zL (za (zc 2) (za (eC (.int 10)) zi)))))
@[simp] def jm:FS:=(yt 13 (zg Pg.xz (za (zc 2) (za (zc 3) zi))))
@[simp] def jb:FS:=(yt 14 (jn (za (zg zI (za (zc 3) (za (zc 4) (za (zc 11) zi)))) (za (zg zI (za (zc 3) (za (zc 12) (za (zc 11) zi)))) (za (zg zI (za (zc 13) (za (zc 12) (za (zc 11) zi)))) zi)))))
@[simp] def zd8:FS:=(wZ (eC (.bl false)))
@[simp] def qY:FS:=(fIf (tOf (eOp dNe (zc 14) (jn (za (eC (.str "number")) (za (eC (.str "size")) (za (eC (.str "rule")) zi)))))) zd8 xp)
@[simp] def z76:FS:=(z73 (z0x (za (zg zdd (za (eC (.int 1)) (za (zg zdB (za (zg ue (za (zc 0) zi)) (za (eC (.int 3)) zi))) zi))) zi)) (wo 1) (zn z1J (zn z2H (zn z2g (zn z1O (zn z21 (zn z26 (zn z23 (zn z22 (zn jd (zn jg (zn jm (zn jb qY)))))))))))))
@[simp] def z4G:FS:=(wZ (eOp zix (zg zI (za (eC (.str "all")) (za (eC (.int 2)) (za (eC (.int 1)) zi)))) (qq (za (eC (.int 1)) (za (jn (za (qq (za (eC (.int 1)) (za (eC (.int 1)) zi))) zi)) zi)))))
def zdN:FS:=(zn z76 z4G)
def zg2:Mir:=Mof ["_law_script","_law_k","_law_pot_here","_law_rule","_law_size","_law_number","_law_some","_law_most","_law_due","_law_turn","_law_found","_law_none","_law_few","_law_word","_law_told_here"] 1 zdN
end K32
set_option maxHeartbeats 6000000
namespace K32
open L2 Dd Pg
structure Txt(mg:Str->Option Value):Prop where
 f0:∃ t,mg "LEAST_SIZE"=some (.int 2 t)
 f1:∃ t,mg "MOST_NUMBER"=some (.int 8 t)
 f2:∃ t,mg "MOST_SIZE"=some (.int 4 t)
 f3:mg "ValueError"=none
 f4:mg "all"=none
 f5:mg "bool"=none
 f6:mg "enumerate"=none
 f7:mg "int"=none
 f8:mg "isinstance"=none
 f9:mg "len"=none
 f10:mg "list"=none
 f11:mg "max"=none
 f12:mg "min"=none
 f13:mg "range"=none
 f14:mg "sorted"=none
 f15:mg "str"=none
 f16:mg "tuple"=none
 f17:mg "zip"=none
theorem zdL:bootBuiltins "all"=some (.builtin "all"):=by decide +kernel
theorem z2h:bootBuiltins "bool"=some (.type "bool"):=by decide +kernel
theorem zba:bootBuiltins "int"=some (.type "int"):=by decide +kernel
theorem ut:bootBuiltins "len"=some (.builtin "len"):=by decide +kernel
theorem z6Y:bootBuiltins "list"=some (.type "list"):=by decide +kernel
theorem kj:bootBuiltins "max"=some (.builtin "max"):=by decide +kernel
theorem zbb:bootBuiltins "min"=some (.builtin "min"):=by decide +kernel
theorem z53:bootBuiltins "sorted"=some (.builtin "sorted"):=by decide +kernel
theorem zea:bootBuiltins "str"=some (.type "str"):=by decide +kernel
theorem vg:bootBuiltins "tuple"=some (.type "tuple"):=by decide +kernel
theorem zlJ:(["_law_rule","_law_lot"]:List Str).Nodup:=by decide +kernel
theorem zlb:(["_law_lot","_law_steps"]:List Str).Nodup:=by decide +kernel
theorem zlE:(["_law_most","_law_lot","_law_steps"]:List Str).Nodup:=by decide +kernel
theorem zm0:(["_law_row","_law_one"]:List Str).Nodup:=by decide +kernel
theorem zlc:(["_law_row"]:List Str).Nodup:=by decide +kernel
theorem zlh:(["_law_one","_law_other"]:List Str).Nodup:=by decide +kernel
theorem zlC:(["_law_number"]:List Str).Nodup:=by decide +kernel
theorem zlk:(["_law_place","_law_number"]:List Str).Nodup:=by decide +kernel
theorem zlF:(["_law_lot","_law_place"]:List Str).Nodup:=by decide +kernel
theorem zl1:(["_law_top","_law_number","_law_place"]:List Str).Nodup:=by decide +kernel
theorem zjt:(["_law_most","_law_top","_law_lot","_law_place"]:List Str).Nodup:=by decide +kernel
theorem zkH:(["_law_by","_law_place"]:List Str).Nodup:=by decide +kernel
theorem zku:(["_law_quotients","_law_lot","_law_by","_law_place","_law_number"]:List Str).Nodup:=by decide +kernel
theorem zjr:(["_law_place","_law_column"]:List Str).Nodup:=by decide +kernel
theorem zjQ:(["most","steps","lot"]:List Str).Nodup:=by decide +kernel
theorem zj6:(["number"]:List Str).Nodup:=by decide +kernel
theorem zkx:(["part"]:List Str).Nodup:=by decide +kernel
theorem zir:(["least","most","ahead","number"]:List Str).Nodup:=by decide +kernel
theorem zjP:(["lot","by","number","quotient"]:List Str).Nodup:=by decide +kernel
theorem zkr:(["divided","lot","by","at"]:List Str).Nodup:=by decide +kernel
theorem zkG:(["place","at"]:List Str).Nodup:=by decide +kernel
section
local macro_rules | `(tactic| trivial)=>`(tactic| exact ⟨rfl,rfl,rfl,by decide +kernel,rfl,by decide +kernel,by decide +kernel⟩)
theorem z7q:zr ["thing"] ["thing"] (ze jV):=by trivial
theorem z7E:zr ["thing"] ["thing"] (ze jQ):=by trivial
theorem xj:zr ["size","least","most","found","place"] ["size","least","most"] (ze wx):=by trivial
theorem wv:zr ["lot","at"] ["lot"] (ze yU):=by trivial
theorem z2N:zr ["lot"] ["lot"] (ze ud):=by trivial
theorem z91:zr ["lot","place"] ["lot","place"] (ze z0u):=by trivial
theorem z8N:zr ["thing"] ["thing"] (ze z02):=by trivial
theorem zct:zr ["rule","numbers"] ["rule","numbers"] (ze z4E):=by trivial
theorem z1X:zr ["_law_script","_law_k"] ["_law_script","_law_k"] (ze vt):=by trivial
theorem wz:zr ["_law_cell","_law_number","_law_j","_law_more"] ["_law_cell"] (ze jY):=by trivial
theorem z0C:zr ["_law_pot_here","_law_far","_law_found"] ["_law_pot_here","_law_far"] (ze qX):=by trivial
theorem z4v:zr [] [] (ze uH):=by trivial
theorem zw:zr ["_law_rule","_law_lot","_law_size","_law_order","_law_top","_law_by","_law_most","_law_some","_law_quotients","_law_place","_law_later","_law_lines","_law_line"] ["_law_rule","_law_lot"] (ze qA):=by trivial
theorem z3Q:zr ["_law_lot"] ["_law_lot"] (ze uF):=by trivial
theorem zS:zr ["_law_e","_law_some","_law_words"] ["_law_e"] (ze vo):=by trivial
theorem z4m:zr ["_law_thing"] ["_law_thing"] (ze qg):=by trivial
theorem xl:zr ["_law_size","_law_number","_law_rows","_law_place","_law_longer","_law_row"] ["_law_size","_law_number"] (ze uK):=by trivial
theorem z4j:zr ["thing","many"] ["thing","many"] (ze uD):=by trivial
theorem z2U:zr ["thing","least","most"] ["thing","least","most"] (ze vZ):=by trivial
theorem z5c:zr ["thing","most"] ["thing","most"] (ze qU):=by trivial
theorem z3q:zr ["lot","greatest","others"] ["lot"] (ze z0f):=by trivial
theorem z2c:zr ["lot","greatest","others"] ["lot"] (ze jM):=by trivial
theorem z5y:zr ["lot","by"] ["lot"] (ze z1Q):=by trivial
theorem z9g:zr ["lot"] ["lot"] (ze z0r):=by trivial
theorem z0O:zr ["thing"] ["thing"] (ze vN):=by trivial
theorem uJ:zr ["_law_rule","_law_lot","_law_lots","_law_tables","_law_later","_law_table"] ["_law_rule","_law_lot"] (ze jN):=by trivial
theorem qH:zr ["_law_pot_here","_law_rule","_law_some"] ["_law_pot_here","_law_rule"] (ze vF):=by trivial
theorem z6D:zr ["_law_found","_law_due"] ["_law_found","_law_due"] (ze vL):=by trivial
theorem z9Z:zr ["thing"] ["thing"] (ze z2C):=by trivial
theorem jX:zr ["rule","lot","deal","by","divided"] ["rule","lot"] (ze jU):=by trivial
theorem z6M:zr ["thing"] ["thing"] (ze jK):=by trivial
theorem z68:zr ["lot"] ["lot"] (ze qC):=by trivial
theorem jp:zr ["rule","lot"] ["rule","lot"] (ze xq):=by trivial
theorem z6l:zr ["rule","lot"] ["rule","lot"] (ze qT):=by trivial
theorem z70:zr ["rule","lot","by","quotients","left"] ["rule","lot"] (ze z6S):=by trivial
theorem yf:zr ["rule","size","most","steps","lot","path","many","behind"] ["rule","size","most"] (ze vA):=by trivial
theorem qf:zr ["rule","size","number","steps","most"] ["rule","size","number"] (ze qc):=by trivial
theorem z0D:zr ["_law_rule","_law_size","_law_number","_law_e"] ["_law_rule","_law_size","_law_number"] (ze qB):=by trivial
theorem vB:zr ["_law_script","_law_k","_law_pot_here","_law_rule","_law_size","_law_number","_law_some","_law_most","_law_due","_law_turn","_law_found","_law_none","_law_few","_law_word","_law_told_here"] ["_law_script"] (ze z3e):=by trivial
end
section
variable {P:Program}{w:World}{K:W.Frag}{mg:Str->Option Value}{base:Heap}(T:Txt mg){f:Addr}{fd:FuncData}
include T
local macro_rules | `(tactic| trivial)=>`(tactic| first | exact (fun _ _ _ _ _ _ us hl=>match us,hl with | [],_=>rfl) | exact (fun _ _ _ _ _ _ us hl=>match us,hl with | [_],_=>rfl) | exact (fun _ _ _ _ _ _ us hl=>match us,hl with | [_,_],_=>rfl) | exact (fun _ _ _ _ _ _ us hl=>match us,hl with | [_,_,_],_=>rfl))
theorem z6k(F:Fun K "is_whole" "is_whole" jV f fd)(hm:mg "is_whole"=some (.ref f))  : Has P w K mg base CX0 "is_whole" 1 Pg.zV:= (ya F hm (F.binds (ps:=["thing"]) (by trivial)) z7q rfl fun cdv A outer s H E hr hc=> have hu:=hr.units;(zj (yi (z6g (z6Z (by decide) zba (by rfl) T.f8 (by rfl) T.f7 (zb 0)) (z5S (zhx (z6Z (by decide) z2h (by rfl) T.f8 (by rfl) T.f5 (zb 0))))))))
theorem z64 (F:Fun K "has_size" "has_size" jQ f fd) (hm:mg "has_size"=some (.ref f))  : Has P w K mg base CX0 "has_size" 1 Pg.vm:= (ya F hm (F.binds (ps:=["thing"]) (by trivial)) z7E rfl fun cdv A outer s H E hr hc=> have hu:=hr.units;(zj (yi (z6g (z6Z (by decide) vg (by rfl) T.f8 (by rfl) T.f16 (zb 0)) (z5S (zfQ zgF zgF (ziU (by rfl) T.f0) (zP kU (by rfl) T.f9 ut (aN (zb 0) zf) (he:=(zy ..))) (ziU (by rfl) T.f2)))))))
theorem kw(F:Fun K "tuples_between" "tuples_between" wx f fd)(hm:mg "tuples_between"=some (.ref f))  : Has P w K mg base CX0 "tuples_between" 1 Pg.zX:= (ya F hm (F.binds (ps:=["size","least","most"]) (by trivial)) xj rfl fun cdv A outer s H E hr hc=> have hu:=hr.units;(zd (zZ 3 xj.nd (vc (aT (wT zf) zf))) (zd (z36 _ah hc (wy (by rfl) T.f13 (aN (zb 0) zf)) (jJ 4 xj.nd) (zj (zg8 3 ["least","most","ahead","number"] [some 1,some 2,none,none] 2 3 xj.nd hc (jW (zb 3)) (fun _ _ _=>yr (i:=2) zir (by rfl) (by first | exact Or.inl rfl | exact Or.inr rfl)) (fun _ _ _=>yr (i:=3) zir (by rfl) (by first | exact Or.inl rfl | exact Or.inr rfl)) (fun _ _ _=>(zcT (by rfl) T.f13 (aN (zb 0) (aB (yd vC (zb 1) zm) zf)))) (fun _ _ _=>(yd vC (zb 2) (wT (aN (zb 3) zf))))))) (zj (yi (zb 3))))))
theorem qa (F:Fun K "greatest_and_others" "greatest_and_others" yU f fd) (hm:mg "greatest_and_others"=some (.ref f))  : Has P w K mg base CX0 "greatest_and_others" 1 Pg.zp:= (ya F hm (F.binds (ps:=["lot"]) (by trivial)) wv rfl fun cdv A outer s H E hr hc=> have hu:=hr.units;(zd (zZ 1 wv.nd (z7y (zb 0) (zP (z1Y (by exact hc)) (by rfl) T.f11 kj (aN (zb 0) zf) (he:=(zy ..))))) (zj (yi (wT (aN (zb 1) (aB (yd vC (yd vC (uY (zb 0) kC (jD (zb 1))) (wT (aK zm zf))) (uY (zb 0) (jD (yd vC (zb 1) zm)) kC)) zf)))))))
theorem z2y (F:Fun K "least_place" "least_place" ud f fd) (hm:mg "least_place"=some (.ref f))  : Has P w K mg base CX0 "least_place" 1 Pg.zR:= (ya F hm (F.binds (ps:=["lot"]) (by trivial)) z2N rfl fun cdv A outer s H E hr hc=> have hu:=hr.units;(zj (yi (z7y (zb 0) (zP (zdW (by exact hc)) (by rfl) T.f12 zbb (aO (yS ["number"] [none] (by exact hc) (jW (zb 0)) (fun _ _ _=>yr (i:=0) zj6 (by rfl) (by first | exact Or.inl rfl | exact Or.inr rfl)) (xa 0 (by rfl)) (fun _ _ _=>ww (yb (z9v hu) (zb 0) zm)) (fun _ _ _=>(zb 0))) zf) (he:=(xf ..)))))))
theorem z7O (F:Fun K "all_but" "all_but" z0u f fd) (hm:mg "all_but"=some (.ref f))  : Has P w K mg base CX0 "all_but" 1 Pg.xC:= (ya F hm (F.binds (ps:=["lot","place"]) (by trivial)) z91 rfl fun cdv A outer s H E hr hc=> have hu:=hr.units;(zj (yi (yS ["place","at"] [some 1,none] (by exact hc) (wy (by rfl) T.f13 (aQ (zP kU (by rfl) T.f9 ut (aN (zb 0) zf) (he:=(zy ..))) zf)) (fun _ _ _=>yr (i:=1) zkG (by rfl) (by first | exact Or.inl rfl | exact Or.inr rfl)) (xa 1 (by rfl)) (fun _ _ _=>ww (yb (z9v hu) (zb 1) (zb 0))) (fun _ _ _=>(zb 1))))))
theorem z7n(F:Fun K "is_rule" "is_rule" z02 f fd)(hm:mg "is_rule"=some (.ref f))(T_RULES:zfw P w K mg "RULES" qd):Has P w K mg base CX0 "is_rule" 1 Pg.xu:= (ya F hm (F.binds (ps:=["thing"]) (by trivial)) z8N rfl fun cdv A outer s H E hr hc=> have hu:=hr.units;(zj (yi (z6g (z6Z (by decide) zea (by rfl) T.f8 (by rfl) T.f15 (zb 0)) (z5S (zg7 T_RULES (by rfl) (zb 0)))))))
theorem zaJ(F:Fun K "moved" "moved" z4E f fd)(hm:mg "moved"=some (.ref f))  : Has P w K mg base CX0 "moved" 1 Pg.jL:= (ya F hm (F.binds (ps:=["rule","numbers"]) (by trivial)) zct rfl fun cdv A outer s H E hr hc=> have hu:=hr.units;(zj (yi (zkM (yb (z5q hu) (zb 0) yF) (yd vC (uY (zb 1) (jD zm) kC) (uY (zb 1) kC (jD zm))) (zb 1)))))
theorem z1l (F:Fun K "_law_cell_at" "_law_cell_at" vt f fd) (hm:mg "_law_cell_at"=some (.ref f))  : Has P w K mg base CX0 "_law_cell_at" 1 Pg.yI:= (ya F hm (F.binds (ps:=["_law_script","_law_k"]) (by trivial)) z1X rfl fun cdv A outer s H E hr hc=> have hu:=hr.units;(zd (z1G (yb zlS (zb 1) (zP kU (by rfl) T.f9 ut (aN (zb 0) zf) (he:=(zy ..)))) (zj (yi (qW (zb 0) (zb 1)))) xc) (zj (yi zm))))
theorem z6o(F:Fun K "_law_pot" "_law_pot" jY f fd)(hm:mg "_law_pot"=some (.ref f))  : Has P w K mg base CX0 "_law_pot" 1 Pg.vn:= (ya F hm (F.binds (ps:=["_law_cell"]) (by trivial)) wz rfl fun cdv A outer s H E hr hc=> have hu:=hr.units;(zd (z1G (yb zl5 (zb 0) (yd zcY zm zm)) (zj (yi (z6i (aB (yd zd0 (zb 0) (yd zcY zm zm)) zf)))) xc) (zd (zZ 1 wz.nd zm) (zd (z36 _ah hc (wy (by rfl) T.f13 (aK zm zf)) (jJ 2 wz.nd) (zd (zZ 3 wz.nd (yd zcP (yd z28 (yd vC (yd vC (yd zcP (zb 0) zm) (yd z28 zm (zb 2))) zm) zm) zm)) (zd (zZ 3 wz.nd (yd zcP (yd vC (yd vC (yd z28 (zb 3) (zb 3)) (yd z28 zm (zb 2))) zm) zm)) (zj (zZ 1 wz.nd (yd vC (yd z28 (zb 1) zm) (zb 3))))))) (zj (yi (z6i (aN (zb 1) zf))))))))
theorem z3N(F:Fun K "_law_take" "_law_take" qX f fd)(hm:mg "_law_take"=some (.ref f))  : Has P w K mg base CX0 "_law_take" 1 Pg.zL:= (ya F hm (F.binds (ps:=["_law_pot_here","_law_far"]) (by trivial)) z0C rfl fun cdv A outer s H E hr hc=> have hu:=hr.units;(zd (zZ 2 z0C.nd (yd zcP (qW (zb 0) zm) (zb 1))) (zd (zb6 (yd zbd (qW (zb 0) zm) (zb 1)) (zb 0) zm) (zj (yi (zb 2))))))
theorem z2O(F:Fun K "_law_rules" "_law_rules" uH f fd)(hm:mg "_law_rules"=some (.ref f))  : Has P w K mg base CX0 "_law_rules" 1 Pg.xS:= (ya F hm (F.binds (ps:=[]) (by trivial)) z4v rfl fun cdv A outer s H E hr hc=> have hu:=hr.units;(zj (yi (vc (aK yF (aK yF (aK yF (aK yF zf))))))))
theorem z4x (F:Fun K "_law_step" "_law_step" qA f fd) (hm:mg "_law_step"=some (.ref f))  : Has P w K mg base CX0 "_law_step" 1 Pg.xD:= (ya F hm (F.binds (ps:=["_law_rule","_law_lot"]) (by trivial)) zw rfl fun cdv A outer s H E hr hc=> have hu:=hr.units;(zd (zZ 2 zw.nd (zP kU (by rfl) T.f9 ut (aN (zb 1) zf) (he:=(zy ..)))) (zd (zZ 3 zw.nd (zP zch (by rfl) T.f14 z53 (aO (yS ["_law_place","_law_number"] [none,none] (by exact hc) (zet (by rfl) T.f6 (aN (zb 1) zf)) (fun _ _ _=>vP 0 1 (by exact hc) zlk) (vI 0 1 (by decide) (by rfl) (by rfl)) (fun _ _ _=>ww (yb ziT (zb 1) zm)) (fun _ _ _=>(wT (aN (zb 1) (aN (zb 0) zf))))) zf) (he:=(xf ..)))) (zd (zZ 4 zw.nd (qW (yS ["_law_lot","_law_place"] [some 1,none] (by exact hc) (wy (by rfl) T.f13 (aN (zb 2) zf)) (fun _ _ _=>yr (i:=1) zlF (by rfl) (by first | exact Or.inl rfl | exact Or.inr rfl)) (xa 1 (by rfl)) (fun _ _ _=>ww (yb (z5q hu) (qW (zb 0) (zb 1)) (zP (z1Y (by exact hc)) (by rfl) T.f11 kj (aN (zb 0) zf) (he:=(zy ..))))) (fun _ _ _=>(zb 1))) zm)) (zd (zZ 5 zw.nd (zii (by decide) (qW (qW (zb 3) zm) zm) zm (zb 0))) (zd (z1G (yb (z5q hu) (zb 0) yF) (zj (zZ 5 zw.nd (qW (yS ["_law_top","_law_number","_law_place"] [some 4,none,none] (by exact hc) (jW (zb 3)) (fun _ _ _=>vP 1 2 (by exact hc) zl1) (vI 1 2 (by decide) (by rfl) (by rfl)) (fun _ _ _=>ww (yb (z9v hu) (zb 2) (zb 0))) (fun _ _ _=>(zb 2))) zm))) xc) (zd (z1G (yb (z5q hu) (zb 0) yF) (zd (zZ 6 zw.nd (zP (z1Y (by exact hc)) (by rfl) T.f11 kj (aO (yS ["_law_top","_law_number","_law_place"] [some 4,none,none] (by exact hc) (jW (zb 3)) (fun _ _ _=>vP 1 2 (by exact hc) zl1) (vI 1 2 (by decide) (by rfl) (by rfl)) (fun _ _ _=>ww (yb (z9v hu) (zb 2) (zb 0))) (fun _ _ _=>(zb 1))) zf) (he:=(xf ..)))) (zj (zZ 5 zw.nd (qW (yS ["_law_most","_law_top","_law_lot","_law_place"] [some 6,some 4,some 1,none] (by exact hc) (wy (by rfl) T.f13 (aN (zb 2) zf)) (fun _ _ _=>yr (i:=3) zjt (by rfl) (by first | exact Or.inl rfl | exact Or.inr rfl)) (xa 3 (by rfl)) (fun _ _ _=>ww (RW.rt (w_and (yb (z5q hu) (qW (zb 2) (zb 3)) (zb 0)) (ze8 (yb (z9v hu) (zb 3) (zb 1)))))) (fun _ _ _=>(zb 3))) zm)))) xc) (zd (z6W 7 ["_law_by","_law_place"] [some 5,none] zw.nd hc (wy (by rfl) T.f13 (aN (zb 2) zf)) (fun _ _ _=>yr (i:=1) zkH (by rfl) (by first | exact Or.inl rfl | exact Or.inr rfl)) (xa 1 (by rfl)) (fun _ _ _=>ww (yb (z9v hu) (zb 1) (zb 0))) (fun _ _ _=>(zb 1))) (zd (z1G (yb zl0 (zb 0) (wT (aK yF (aK yF zf)))) (zj (zZ 7 zw.nd (vc (aN (zb 4) zf)))) xc) (zd (zZ 8 zw.nd (yd zhg (z6i (aK zm zf)) (zb 2))) (zd (z36 _ah hc (jW (zb 7)) (jJ 9 zw.nd) (zj (z1G (yb ziT (qW (zb 1) (zb 5)) zm) (zj (zb6 (yd zbd (qW (zb 1) (zb 9)) (qW (zb 1) (zb 5))) (zb 8) (zb 9))) xc))) (zd (z6W 10 ["_law_quotients","_law_lot","_law_by","_law_place","_law_number"] [some 8,some 1,some 5,none,none] zw.nd hc (zet (by rfl) T.f6 (aN (zb 1) zf)) (fun _ _ _=>vP 3 4 (by exact hc) zku) (vI 3 4 (by decide) (by rfl) (by rfl)) (fun _ _ _=>uO) (fun _ _ _=>(yd zd0 (zb 4) (yd z28 (qW (zb 0) (zb 3)) (qW (zb 1) (zb 2)))))) (zd (zZ 11 zw.nd (z6i zf)) (zd (z36 _ah hc (wy (by rfl) T.f13 (aN (zb 2) zf)) (jJ 9 zw.nd) (zd (zgc 12 ["_law_place","_law_column"] [some 9,none] zw.nd hc (wy (by rfl) T.f13 (aN (zb 2) zf)) (fun _ _ _=>yr (i:=1) zjr (by rfl) (by first | exact Or.inl rfl | exact Or.inr rfl)) (xa 1 (by rfl)) (fun _ _ _=>uO) (fun _ _ _=>(z1M zk2 (by rfl) T.f7 zba (aM (jw (z5q hu) (zb 0) (zb 1)) zf) (he:=(z7T ..))))) (zd (zb6 (yd vC (qW (zb 12) (zb 5)) (qW (zb 8) (zb 9))) (zb 12) (zb 5)) (zd (z1G (yb (z5q hu) (zb 0) yF) (zj (zZ 12 zw.nd (yd vC (uY (zb 12) (jD zm) kC) (uY (zb 12) kC (jD zm))))) xc) (zj (vS (kK (zb 11) (z1M z4U (by rfl) T.f16 vg (aN (zb 12) zf) (he:=(zy ..)))))))))) (zd (z1G (yb (z5q hu) (zb 0) yF) (zj (zZ 10 zw.nd (yd vC (uY (zb 10) (jD zm) kC) (uY (zb 10) kC (jD zm))))) xc) (zj (yi (wT (aQ (z1M z4U (by rfl) T.f16 vg (aN (zb 10) zf) (he:=(zy ..))) (aQ (z1M z4U (by rfl) T.f16 vg (aN (zb 11) zf) (he:=(zy ..))) zf)))))))))))))))))))).tidy
theorem z38 (F:Fun K "_law_ended" "_law_ended" uF f fd) (hm:mg "_law_ended"=some (.ref f))  : Has P w K mg base CX0 "_law_ended" 1 Pg.wj:= (ya F hm (F.binds (ps:=["_law_lot"]) (by trivial)) z3Q rfl fun cdv A outer s H E hr hc=> have hu:=hr.units;(zj (yi (jw (z5q hu) (zP kU (by rfl) T.f9 ut (aO (yS ["_law_number"] [none] (by exact hc) (jW (zb 0)) (fun _ _ _=>yr (i:=0) zlC (by rfl) (by first | exact Or.inl rfl | exact Or.inr rfl)) (xa 0 (by rfl)) (fun _ _ _=>ww (yb ziT (zb 0) zm)) (fun _ _ _=>(zb 0))) zf) (he:=(xf ..))) zm))))
theorem z13(F:Fun K "_law_kind_of" "_law_kind_of" vo f fd)(hm:mg "_law_kind_of"=some (.ref f))(FM:z5t ⟨mg,K⟩ rsX csX):zje P w K mg base CX0 "_law_kind_of" 1 yo:= zfD F hm (F.binds (ps:=["_law_e"]) (by trivial)) zS rfl fun cdv A outer s H E hr=> have hu:=hr.units;(zd (zZ 1 zS.nd (vc (aQ (qQ FM (by decide) (by rfl) T.f8 (by rfl) (zb 0)) (aQ (qQ FM (by decide) (by rfl) T.f8 (by rfl) (zb 0)) (aQ (qQ FM (by decide) (by rfl) T.f8 (by rfl) (zb 0)) (aQ (qQ FM (by decide) (by rfl) T.f8 (by rfl) (zb 0)) zf)))))) (zd (zZ 1 zS.nd (yd vC (zb 1) (vc (aQ (qQ FM (by decide) (by rfl) T.f8 (by rfl) (zb 0)) (aQ (qQ FM (by decide) (by rfl) T.f8 (by rfl) (zb 0)) (aQ (qQ FM (by decide) (by rfl) T.f8 (by rfl) (zb 0)) (aQ (qQ FM (by decide) (by rfl) T.f8 (by rfl) (zb 0)) zf))))))) (zd (zZ 1 zS.nd (yd vC (zb 1) (vc (aQ (qQ FM (by decide) (by rfl) T.f8 (by rfl) (zb 0)) (aQ (qQ FM (by decide) (by rfl) T.f8 (by rfl) (zb 0)) (aQ (qQ FM (by decide) (by rfl) T.f8 (by rfl) (zb 0)) (aQ (qQ FM (by decide) (by rfl) T.f8 (by rfl) (zb 0)) zf))))))) (zd (zZ 1 zS.nd (yd vC (zb 1) (vc (aQ (qQ FM (by decide) (by rfl) T.f8 (by rfl) (zb 0)) (aQ (qQ FM (by decide) (by rfl) T.f8 (by rfl) (zb 0)) (aQ (qQ FM (by decide) (by rfl) T.f8 (by rfl) (zb 0)) (aQ (qQ FM (by decide) (by rfl) T.f8 (by rfl) (zb 0)) zf))))))) (zd (zZ 1 zS.nd (yd vC (zb 1) (vc (aQ (qQ FM (by decide) (by rfl) T.f8 (by rfl) (zb 0)) zf)))) (zd (z1G (RW.rt (zeu (yb (z9v hu) (zc6 (zb 1) zby) zm) (z7d (kE (jo (zjw FM (by rfl) T.f8 (by rfl) T.f3 (zb 0))))))) (zj (yi yF)) xc) (zd (zZ 2 zS.nd (vc (aK yF (aK yF (aK yF (aK yF (aK yF (aK yF (aK yF (aK yF (aK yF zf))))))))))) (zd (zZ 2 zS.nd (yd vC (zb 2) (vc (aK yF (aK yF (aK yF (aK yF (aK yF (aK yF (aK yF (aK yF zf))))))))))) (zj (yi (qW (zb 2) (zd9 (zb 1) zby))))))))))))
theorem z2P(F:Fun K "_law_whole" "_law_whole" qg f fd)(hm:mg "_law_whole"=some (.ref f))  : Has P w K mg base CX0 "_law_whole" 1 Pg.xU:= (ya F hm (F.binds (ps:=["_law_thing"]) (by trivial)) z4m rfl fun cdv A outer s H E hr hc=> have hu:=hr.units;(zj (yi (z6g (z6Z (by decide) zba (by rfl) T.f8 (by rfl) T.f7 (zb 0)) (z5S (zhx (z6Z (by decide) z2h (by rfl) T.f8 (by rfl) T.f5 (zb 0))))))))
theorem z39 (F:Fun K "_law_every" "_law_every" uK f fd) (hm:mg "_law_every"=some (.ref f))  : Has P w K mg base CX0 "_law_every" 1 xQ:= (ya F hm (F.binds (ps:=["_law_size","_law_number"]) (by trivial)) xl rfl fun cdv A outer s H E hr hc=> have hu:=hr.units;(zd (zZ 2 xl.nd (vc (aT (wT zf) zf))) (zd (z36 _ah hc (wy (by rfl) T.f13 (aN (zb 0) zf)) (jJ 3 xl.nd) (zd (zZ 4 xl.nd (z6i zf)) (zd (z36 _ah hc (jW (zb 2)) (jJ 5 xl.nd) (zj (vS (zdb (zb 4) (yS ["_law_row","_law_one"] [some 5,none] (by exact hc) (wy (by rfl) T.f13 (aB (yd vC (zb 1) zm) zf)) (fun _ _ _=>yr (i:=1) zm0 (by rfl) (by first | exact Or.inl rfl | exact Or.inr rfl)) (xa 1 (by rfl)) (fun _ _ _=>uO) (fun _ _ _=>(yd vC (zb 0) (wT (aN (zb 1) zf))))))))) (zj (zZ 2 xl.nd (zb 4)))))) (zj (yi (yS ["_law_row"] [none] (by exact hc) (jW (zb 2)) (fun _ _ _=>yr (i:=0) zlc (by rfl) (by first | exact Or.inl rfl | exact Or.inr rfl)) (xa 0 (by rfl)) (fun _ _ _=>ww (yb ziT (zP (z1Y (by exact hc)) (by rfl) T.f11 kj (aN (zb 0) zf) (he:=(zy ..))) zm)) (fun _ _ _=>(zb 0)))))))).tidy
theorem z2V (F:Fun K "are_wholes" "are_wholes" uD f fd) (hm:mg "are_wholes"=some (.ref f)) (H_is_whole:Has P w K mg base CX0 "is_whole" 1 Pg.zV):Has P w K mg base CX0 "are_wholes" 2 Pg.xO:= (ya F hm (F.binds (ps:=["thing","many"]) (by trivial)) z4j rfl fun cdv A outer s H E hr hc=> have hu:=hr.units;(zd (z1G (RW.rt (zeu (kE (jo (z6Z (by decide) vg (by rfl) T.f8 (by rfl) T.f16 (zb 0)))) (z7d (yb (z9v hu) (zP kU (by rfl) T.f9 ut (aN (zb 0) zf) (he:=(zy ..))) (zb 1))))) (zj (yi zby)) xc) (zj (yi (zP (zhU (by exact hc)) (by rfl) T.f4 zdL (aO (yS ["part"] [none] (by exact hc) (jW (zb 0)) (fun _ _ _=>yr (i:=0) zkx (by rfl) (by first | exact Or.inl rfl | exact Or.inr rfl)) (xa 0 (by rfl)) (fun _ _ _=>uO) (fun _ _ _=>(vj H_is_whole hr yh (aN (zb 0) zf)))) zf) (he:=(xf ..)))))))
theorem z1k(F:Fun K "want_number" "want_number" vZ f fd)(hm:mg "want_number"=some (.ref f))(E_NoNumber:zdJ K mg "NoNumber")(H_is_whole:Has P w K mg base CX0 "is_whole" 1 Pg.zV):Has P w K mg base (CX1 P w) "want_number" 2 Pg.zM:= (z1S F hm (F.binds (ps:=["thing","least","most"]) (by trivial)) z2U rfl fun cdv A outer s H E hr hc=> have hu:=hr.units;(zj (z1G (RW.rt (zeu (kE (jo (vj H_is_whole hr zft (aN (zb 0) zf)))) (z7d (kE (zaQ zgF zgF (zb 1) (zb 0) (zb 2)))))) (zj (z6G E_NoNumber z4f hc (by rfl))) xc)))
theorem z2W(F:Fun K "want_size" "want_size" qU f fd)(hm:mg "want_size"=some (.ref f))(E_NoSize:zdJ K mg "NoSize")(H_is_whole:Has P w K mg base CX0 "is_whole" 1 Pg.zV):Has P w K mg base (CX1 P w) "want_size" 2 Pg.zY:= (z1S F hm (F.binds (ps:=["thing","most"]) (by trivial)) z5c rfl fun cdv A outer s H E hr hc=> have hu:=hr.units;(zj (z1G (RW.rt (zeu (kE (jo (vj H_is_whole hr zft (aN (zb 0) zf)))) (z7d (kE (zaQ zgF zgF (ziU (by rfl) T.f0) (zb 0) (zb 1)))))) (zj (z6G E_NoSize z4f hc (by rfl))) xc)))
theorem z6R (F:Fun K "by_next" "by_next" z0f f fd) (hm:mg "by_next"=some (.ref f)) (H_greatest_and_others:Has P w K mg base CX0 "greatest_and_others" 1 Pg.zp):Has P w K mg base CX0 "by_next" 2 Pg.wO:= (ya F hm (F.binds (ps:=["lot"]) (by trivial)) z3q rfl fun cdv A outer s H E hr hc=> have hu:=hr.units;(zd (z9A (vj H_greatest_and_others hr yh (aN (zb 0) zf)) (z5m 1 2 hc z3q.nd)) (zj (yi (wT (aQ (z7y (zb 2) (zP (z1Y (by exact hc)) (by rfl) T.f11 kj (aN (zb 2) zf) (he:=(zy ..)))) (aL (vc (aN (zb 1) zf)) zf)))))))
theorem z5e(F:Fun K "by_least" "by_least" jM f fd)(hm:mg "by_least"=some (.ref f))(H_greatest_and_others:Has P w K mg base CX0 "greatest_and_others" 1 Pg.zp)(H_least_place:Has P w K mg base CX0 "least_place" 1 Pg.zR):Has P w K mg base CX0 "by_least" 2 Pg.xR:= (ya F hm (F.binds (ps:=["lot"]) (by trivial)) z2c rfl fun cdv A outer s H E hr hc=> have hu:=hr.units;(zd (z9A (vj H_greatest_and_others hr yh (aN (zb 0) zf)) (z5m 1 2 hc z2c.nd)) (zj (yi (wT (aQ (vj H_least_place hr yh (aN (zb 2) zf)) (aL (vc (aN (zb 1) zf)) zf)))))))
theorem z9f(F:Fun K "by_all" "by_all" z1Q f fd)(hm:mg "by_all"=some (.ref f))(H_least_place:Has P w K mg base CX0 "least_place" 1 Pg.zR)(H_all_but:Has P w K mg base CX0 "all_but" 1 Pg.xC):Has P w K mg base CX0 "by_all" 2 Pg.vO:= (ya F hm (F.binds (ps:=["lot"]) (by trivial)) z5y rfl fun cdv A outer s H E hr hc=> have hu:=hr.units;(zd (zZ 1 z5y.nd (vj H_least_place hr yh (aN (zb 0) zf))) (zj (yi (wT (aN (zb 1) (aQ (vj H_all_but hr yh (aN (zb 0) (aN (zb 1) zf))) zf)))))))
theorem z72(F:Fun K "by_turn" "by_turn" z0r f fd)(hm:mg "by_turn"=some (.ref f))(H_all_but:Has P w K mg base CX0 "all_but" 1 Pg.xC):Has P w K mg base CX0 "by_turn" 2 Pg.wP:= (ya F hm (F.binds (ps:=["lot"]) (by trivial)) z9g rfl fun cdv A outer s H E hr hc=> have hu:=hr.units;(zd (z1G (yb (z5q hu) (qW (zb 0) zm) zm) (zj (yi (wT (aK zm (aL (vc zf) zf))))) xc) (zj (yi (wT (aK zm (aQ (vj H_all_but hr yh (aN (zb 0) (aK zm zf))) zf)))))))
theorem z31(F:Fun K "want_rule" "want_rule" vN f fd)(hm:mg "want_rule"=some (.ref f))(E_NoRule:zdJ K mg "NoRule")(H_is_rule:Has P w K mg base CX0 "is_rule" 1 Pg.xu):Has P w K mg base (CX1 P w) "want_rule" 2 Pg.yA:= (z1S F hm (F.binds (ps:=["thing"]) (by trivial)) z0O rfl fun cdv A outer s H E hr hc=> have hu:=hr.units;(zj (z1G (kE (jo (vj H_is_rule hr zft (aN (zb 0) zf)))) (zj (z6G E_NoRule z4f hc (by rfl))) xc)))
theorem z4O(F:Fun K "want_rule" "want_rule" vN f fd)(hm:mg "want_rule"=some (.ref f))(H_is_rule:Has P w K mg base CX0 "is_rule" 1 Pg.xu):Has P w K mg base CX0 "want_rule" 2 Pg.yz:= (ya F hm (F.binds (ps:=["thing"]) (by trivial)) z0O rfl fun cdv A outer s H E hr hc=> have hu:=hr.units;(zj (z1G (kE (jo (vj H_is_rule hr yh (aN (zb 0) zf)))) (zj z6N) xc)))
theorem z5U (F:Fun K "_law_run" "_law_run" jN f fd) (hm:mg "_law_run"=some (.ref f)) (H__law_step:Has P w K mg base CX0 "_law_step" 1 Pg.xD) (H__law_ended:Has P w K mg base CX0 "_law_ended" 1 Pg.wj):Has P w K mg base CX0 "_law_run" 2 zT:= (ya F hm (F.binds (ps:=["_law_rule","_law_lot"]) (by trivial)) uJ rfl fun cdv A outer s H E hr hc=> have hu:=hr.units;(zd (zZ 2 uJ.nd (z6i (aN (zb 1) zf))) (zd (zZ 3 uJ.nd (z6i zf)) (zd (zaA _ah (kE (jo (vj H__law_ended hr yh (aS (qW (zb 2) (z5A zm)) zf) (he:=(z1x ..))))) (zd (z9A (vj H__law_step hr yh (aN (zb 0) (aS (qW (zb 2) (z5A zm)) zf))) (z5m 4 5 hc uJ.nd)) (zd (vS (kK (zb 2) (zb 4))) (zj (vS (kK (zb 3) (zb 5))))))) (zj (yi (wT (aN (zb 2) (aN (zb 3) zf)))))))))
theorem z0Y(F:Fun K "_law_no_rule" "_law_no_rule" vF f fd)(hm:mg "_law_no_rule"=some (.ref f))(H__law_take:Has P w K mg base CX0 "_law_take" 1 Pg.zL):Has P w K mg base CX0 "_law_no_rule" 2 Pg.xz:= (ya F hm (F.binds (ps:=["_law_pot_here","_law_rule"]) (by trivial)) qH rfl fun cdv A outer s H E hr hc=> have hu:=hr.units;(zd (zZ 2 qH.nd (vc (aQ (zeX (zb 1)) (aB (yd zdQ (zb 1) yF) (aS (zcq (zb 1) (jD zm)) (aB (yd zdQ (zb 1) yF) (aK yF (aK zdr (aK zm (aT (wT (aN (zb 1) zf)) (aL (vc (aN (zb 1) zf)) (aK zby (qG zjs zf (by rfl)))))))))))))) (zj (yi (qW (zb 2) (vj H__law_take hr yh (aN (zb 0) (aK zm zf))))))))
theorem xx (F:Fun K "_law_same" "_law_same" vL f fd) (hm:mg "_law_same"=some (.ref f)) (H__law_whole:Has P w K mg base CX0 "_law_whole" 1 Pg.xU) (k:Nat) (Hr:Has P w K mg base CX0 "_law_same" (k+1) (Pg.zA k)):Has P w K mg base CX0 "_law_same" (k+1+1) (Pg.zA (k+1)):= (ya F hm (F.binds (ps:=["_law_found","_law_due"]) (by trivial)) z6D rfl fun cdv A outer s H E hr hc=> have hu:=hr.units;(zd (z1G (jo (zk8 (by decide) (by decide) z6Y vg (by rfl) T.f8 (by rfl) T.f10 (by rfl) T.f16 (zb 1))) (zd (z1G (RW.rt (zeu (yb (z9v hu) (z6Z (by decide) z6Y (by rfl) T.f8 (by rfl) T.f10 (zb 1)) (z6Z (by decide) z6Y (by rfl) T.f8 (by rfl) T.f10 (zb 0))) (z7d (yb (z9v hu) (z6Z (by decide) vg (by rfl) T.f8 (by rfl) T.f16 (zb 1)) (z6Z (by decide) vg (by rfl) T.f8 (by rfl) T.f16 (zb 0)))))) (zj (yi zby)) xc) (zj (yi (z6g (jw (z5q hu) (zP kU (by rfl) T.f9 ut (aN (zb 0) zf) (he:=(zy ..))) (zP kU (by rfl) T.f9 ut (aN (zb 1) zf) (he:=(zy ..)))) (z5S (zP (zhU (by exact hc)) (by rfl) T.f4 zdL (aO (yS ["_law_one","_law_other"] [none,none] (by exact hc) (zgY (by rfl) T.f17 (aN (zb 0) (aN (zb 1) zf))) (fun _ _ _=>vP 0 1 (by exact hc) zlh) (vI 0 1 (by decide) (by rfl) (by rfl)) (fun _ _ _=>uO) (fun _ _ _=>(zbQ Hr hr yh (by rfl) (aN (zb 0) (aN (zb 1) zf))))) zf) (he:=(xf ..)))))))) xc) (zd (z1G (RW.rt (zeu (yb zle (zb 1) zdr) (zeu (jo (z6Z (by decide) z2h (by rfl) T.f8 (by rfl) T.f5 (zb 1))) (z7d (jo (z6Z (by decide) zea (by rfl) T.f8 (by rfl) T.f15 (zb 1))))))) (zj (yi (z6g (jw (z5q hu) (zb 0) (zb 1)) (z5S (jw (z5q hu) (z6Z (by decide) z2h (by rfl) T.f8 (by rfl) T.f5 (zb 0)) (z6Z (by decide) z2h (by rfl) T.f8 (by rfl) T.f5 (zb 1))))))) xc) (zj (yi (z6g (zbQ H__law_whole (hr.mono (by omega)) yh (by rfl) (aN (zb 0) zf)) (z5S (jw (z5q hu) (zb 0) (zb 1)))))))))
theorem z4l(F:Fun K "_law_same" "_law_same" vL f fd)(hm:mg "_law_same"=some (.ref f))(H__law_whole:Has P w K mg base CX0 "_law_whole" 1 Pg.xU):Has P w K mg base CX0 "_law_same" 6 Pg.uX:= (xx T F hm H__law_whole 4 (xx T F hm H__law_whole 3 (xx T F hm H__law_whole 2 (xx T F hm H__law_whole 1 (xx T F hm H__law_whole 0 ((ziD F hm (F.binds (ps:=["_law_found","_law_due"]) (by trivial))).mono (by decide)))))))
theorem z8M (F:Fun K "is_lot" "is_lot" z2C f fd) (hm:mg "is_lot"=some (.ref f)) (H_has_size:Has P w K mg base CX0 "has_size" 1 Pg.vm) (H_are_wholes:Has P w K mg base CX0 "are_wholes" 2 Pg.xO):Has P w K mg base CX0 "is_lot" 3 Pg.uP:= (ya F hm (F.binds (ps:=["thing"]) (by trivial)) z9Z rfl fun cdv A outer s H E hr hc=> have hu:=hr.units;(zd (z1G (RW.rt (zeu (kE (jo (vj H_has_size hr yh (aN (zb 0) zf)))) (z7d (kE (jo (vj H_are_wholes hr yh (aN (zb 0) (aQ (zP kU (by rfl) T.f9 ut (aN (zb 0) zf) (he:=(zy ..))) zf)))))))) (zj (yi zby)) xc) (zj (yi (z6g (jw zl5 (zP (zdW (by exact hc)) (by rfl) T.f12 zbb (aN (zb 0) zf) (he:=(zy ..))) zm) (z5S (jw ziT (zP (z1Y (by exact hc)) (by rfl) T.f11 kj (aN (zb 0) zf) (he:=(zy ..))) zm)))))))
theorem z52 (F:Fun K "division" "division" jU f fd) (hm:mg "division"=some (.ref f)) (T_RULES:zfw P w K mg "RULES" qd) (H_by_next:Has P w K mg base CX0 "by_next" 2 Pg.wO) (H_by_least:Has P w K mg base CX0 "by_least" 2 Pg.xR) (H_by_all:Has P w K mg base CX0 "by_all" 2 Pg.vO) (H_by_turn:Has P w K mg base CX0 "by_turn" 2 Pg.wP):Has P w K mg base CX0 "division" 3 Pg.wF:= (ya F hm (F.binds (ps:=["rule","lot"]) (by trivial)) jX rfl fun cdv A outer s H E hr hc=> have hu:=hr.units;(zd (zZ 2 jX.nd (zjE T_RULES (by rfl) (zb 0) (fun _ _=>rfl))) (zd (z9A (zg6 (n:=2) 2 (kG (Has.mono H_by_next (by decide)) (kG (Has.mono H_by_least (by decide)) (kG (Has.mono H_by_all (by decide)) (kG (Has.mono H_by_turn (by decide)) zck)))) (hr.mono (by decide)) yh (aN (zb 1) zf) (he:=(zy ..))) (z5m 3 4 hc jX.nd)) (zj (yi (wT (aN (zb 3) (aO (yS ["divided","lot","by","at"] [some 4,some 1,some 3,none] (by exact hc) (wy (by rfl) T.f13 (aQ (zP kU (by rfl) T.f9 ut (aN (zb 1) zf) (he:=(zy ..))) zf)) (fun _ _ _=>yr (i:=3) zkr (by rfl) (by first | exact Or.inl rfl | exact Or.inr rfl)) (xa 3 (by rfl)) (fun _ _ _=>uO) (fun _ _ _=>(zkM (yb zl0 (zb 3) (zb 0)) (yd zbd (qW (zb 1) (zb 3)) (qW (zb 1) (zb 2))) zm))) zf))))))))
theorem z6u(F:Fun K "want_lot" "want_lot" jK f fd)(hm:mg "want_lot"=some (.ref f))(H_is_lot:Has P w K mg base CX0 "is_lot" 3 Pg.uP):Has P w K mg base CX0 "want_lot" 4 Pg.yJ:= (ya F hm (F.binds (ps:=["thing"]) (by trivial)) z6M rfl fun cdv A outer s H E hr hc=> have hu:=hr.units;(zj (z1G (kE (jo (vj H_is_lot hr yh (aN (zb 0) zf)))) (zj z6N) xc)))
theorem z4t (F:Fun K "has_ended" "has_ended" qC f fd) (hm:mg "has_ended"=some (.ref f)) (H_want_lot:Has P w K mg base CX0 "want_lot" 4 Pg.yJ):Has P w K mg base CX0 "has_ended" 5 Pg.yq:= (ya F hm (F.binds (ps:=["lot"]) (by trivial)) z68 rfl fun cdv A outer s H E hr hc=> have hu:=hr.units;(zd (vS (vj H_want_lot hr yh (aN (zb 0) zf))) (zj (yi (jw (z5q hu) (zP kU (by rfl) T.f9 ut (aO (yS ["number"] [none] (by exact hc) (jW (zb 0)) (fun _ _ _=>yr (i:=0) zj6 (by rfl) (by first | exact Or.inl rfl | exact Or.inr rfl)) (xa 0 (by rfl)) (fun _ _ _=>ww (yb (z9v hu) (zb 0) zm)) (fun _ _ _=>(zb 0))) zf) (he:=(xf ..))) zm)))))
theorem qV(F:Fun K "want_rule_and_lot" "want_rule_and_lot" xq f fd)(hm:mg "want_rule_and_lot"=some (.ref f))(H_want_rule:Has P w K mg base CX0 "want_rule" 2 Pg.yz)(H_want_lot:Has P w K mg base CX0 "want_lot" 4 Pg.yJ):Has P w K mg base CX0 "want_rule_and_lot" 5 Pg.zH:= (ya F hm (F.binds (ps:=["rule","lot"]) (by trivial)) jp rfl fun cdv A outer s H E hr hc=> have hu:=hr.units;(zd (vS (vj H_want_rule hr yh (aN (zb 0) zf))) (zj (vS (vj H_want_lot hr yh (aN (zb 1) zf))))))
theorem z4W(F:Fun K "want_step" "want_step" qT f fd)(hm:mg "want_step"=some (.ref f))(H_has_ended:Has P w K mg base CX0 "has_ended" 5 Pg.yq)(H_want_rule_and_lot:Has P w K mg base CX0 "want_rule_and_lot" 5 Pg.zH):Has P w K mg base CX0 "want_step" 6 Pg.xM:= (ya F hm (F.binds (ps:=["rule","lot"]) (by trivial)) z6l rfl fun cdv A outer s H E hr hc=> have hu:=hr.units;(zd (vS (vj H_want_rule_and_lot hr yh (aN (zb 0) (aN (zb 1) zf)))) (zj (z1G (jo (vj H_has_ended hr yh (aN (zb 1) zf))) (zj z6N) xc))))
theorem zdx (F:Fun K "step" "step" z6S f fd) (hm:mg "step"=some (.ref f)) (H_moved:Has P w K mg base CX0 "moved" 1 Pg.jL) (H_division:Has P w K mg base CX0 "division" 3 Pg.wF) (H_want_step:Has P w K mg base CX0 "want_step" 6 Pg.xM):Has P w K mg base CX0 "step" 7 Pg.M_step:= (ya F hm (F.binds (ps:=["rule","lot"]) (by trivial)) z70 rfl fun cdv A outer s H E hr hc=> have hu:=hr.units;(zd (vS (vj H_want_step hr yh (aN (zb 0) (aN (zb 1) zf)))) (zd (z9A (vj H_division hr yh (aN (zb 0) (aN (zb 1) zf))) (z5m 2 3 hc z70.nd)) (zd (zZ 4 z70.nd (z1M z4U (by rfl) T.f16 vg (aO (yS ["lot","by","number","quotient"] [some 1,some 2,none,none] (by exact hc) (zgY (by rfl) T.f17 (aN (zb 1) (aN (zb 3) zf))) (fun _ _ _=>vP 2 3 (by exact hc) zjP) (vI 2 3 (by decide) (by rfl) (by rfl)) (fun _ _ _=>uO) (fun _ _ _=>(yd zd0 (zb 2) (yd z28 (zb 3) (qW (zb 0) (zb 1)))))) zf) (he:=(xf ..)))) (zj (yi (vj H_moved hr yh (aN (zb 0) (aN (zb 4) zf)))))))))
theorem z00 (F:Fun K "steps_of_all" "steps_of_all" vA f fd) (hm:mg "steps_of_all"=some (.ref f)) (H_tuples_between:Has P w K mg base CX0 "tuples_between" 1 Pg.zX) (H_has_ended:Has P w K mg base CX0 "has_ended" 5 Pg.yq) (H_step:Has P w K mg base CX0 "step" 7 Pg.M_step):Has P w K mg base (CX1 P w) "steps_of_all" 8 Pg.wM:= (z1S F hm (F.binds (ps:=["rule","size","most"]) (by trivial)) yf rfl fun cdv A outer s H E hr hc=> have hu:=hr.units;(zd (z5x (zZ 3 yf.nd zic)) (zd (z5x (z36 _ah hc (jW (uY (vj H_tuples_between hr yh (aN (zb 1) (aK zm (aN (zb 2) zf)))) (jD zm) kC)) (jJ 4 yf.nd) (zd (zZ 5 yf.nd (z6i (aN (zb 4) zf))) (zd (zaA _ah (RW.rt (w_and (yb (zcU hu) (qW (zb 5) (z5A zm)) (zb 3)) (ze8 (kE (jo (vj H_has_ended hr yh (aS (qW (zb 5) (z5A zm)) zf) (he:=(z1x ..)))))))) (zj (vS (kK (zb 5) (vj H_step hr yh (aN (zb 0) (aS (qW (zb 5) (z5A zm)) zf))))))) (zd (zZ 6 yf.nd (zff hu (zb 3) (qW (zb 5) (z5A zm)) zm)) (zj (z36 _ah hc (jW (zhY (zb 5))) (jJ 7 yf.nd) (zd (zhf hu (zb 6) (zb 3) (zb 7)) (zj (zkp 6 yf.nd zm)))))))))) (zj (z5x (yi (zb 3)))))))
theorem z2A (F:Fun K "most_steps" "most_steps" qc f fd) (hm:mg "most_steps"=some (.ref f)) (HX_want_number:Has P w K mg base (CX1 P w) "want_number" 2 Pg.zM) (HX_want_size:Has P w K mg base (CX1 P w) "want_size" 2 Pg.zY) (HX_want_rule:Has P w K mg base (CX1 P w) "want_rule" 2 Pg.yA) (HX_steps_of_all:Has P w K mg base (CX1 P w) "steps_of_all" 8 Pg.wM):Has P w K mg base (CX1 P w) "most_steps" 9 Pg.zO:= (z1S F hm (F.binds (ps:=["rule","size","number"]) (by trivial)) qf rfl fun cdv A outer s H E hr hc=> have hu:=hr.units;(zd (vS (vj HX_want_rule hr zda (aN (zb 0) zf))) (zd (vS (vj HX_want_size hr zda (aN (zb 1) (aN (ziU (by rfl) T.f2) zf)))) (zd (vS (vj HX_want_number hr zda (aN (zb 2) (aK zm (aN (ziU (by rfl) T.f1) zf))))) (zd (zZ 3 qf.nd (vj HX_steps_of_all hr zda (aN (zb 0) (aN (zb 1) (aN (zb 2) zf))))) (zd (z5x (zZ 4 qf.nd (zio (by exact hc) (by rfl) T.f11 kj (zb 3)))) (zj (z5x (yi (wT (aN (zb 4) (aQ (zP zcf (by rfl) T.f14 z53 (aO (yS ["most","steps","lot"] [some 4,some 3,none] (by exact hc) (zjD (zb 3)) (fun _ _ _=>yr (i:=2) zjQ (by rfl) (by first | exact Or.inl rfl | exact Or.inr rfl)) (xa 2 (by rfl)) (fun _ _ _=>ww (yb (z5q hu) (zi4 hu (zb 1) (zb 2)) (zb 0))) (fun _ _ _=>(zb 2))) zf) (he:=(xf ..))) zf))))))))))))
theorem z4s (F:Fun K "_law_told" "_law_told" qB f fd) (hm:mg "_law_told"=some (.ref f)) (KS:∀ c∈rsX,zjd K mg c "DrawError") (H__law_kind_of:zje P w K mg base CX0 "_law_kind_of" 1 yo) (HX_most_steps:Has P w K mg base (CX1 P w) "most_steps" 9 Pg.zO):Has P w K mg base CX0 "_law_told" 10 zI:= (ya F hm (F.binds (ps:=["_law_rule","_law_size","_law_number"]) (by trivial)) z0D rfl fun cdv A outer s H E hr hc=> have hu:=hr.units;(zj (zkc rfl rfl rfl KS (by rfl) z0D.nd (by rfl) (by rfl) (fun pn xe E1 hp=>(zj (yi (vj HX_most_steps hr hp (aN (zb 0) (aN (zb 1) (aN (zb 2) zf))))))) (fun e pn=>(zj (yi (zgn H__law_kind_of (zkn (hr.h.mono (by decide))) yh (by rfl) (aN (zb 3) zf) (he:=(zy ..)))))))))
theorem z8I (F:Fun K "law" "law" z3e f fd) (hm:mg "law"=some (.ref f)) (H__law_cell_at:Has P w K mg base CX0 "_law_cell_at" 1 Pg.yI) (H__law_pot:Has P w K mg base CX0 "_law_pot" 1 Pg.vn) (H__law_take:Has P w K mg base CX0 "_law_take" 1 Pg.zL) (H__law_rules:Has P w K mg base CX0 "_law_rules" 1 Pg.xS) (H__law_every:Has P w K mg base CX0 "_law_every" 1 xQ) (H__law_run:Has P w K mg base CX0 "_law_run" 2 zT) (H__law_no_rule:Has P w K mg base CX0 "_law_no_rule" 2 Pg.xz) (H__law_same:Has P w K mg base CX0 "_law_same" 6 Pg.uX) (H__law_told:Has P w K mg base CX0 "_law_told" 10 zI):z4g P w K mg base CX0 11 f fd ["_law_script"] (zdV ⟨mg,K⟩ zg2):= zht F vB rfl fun cdv A outer s H E hr hc=>by
  have hu:=hr.units;refine zd ?_ ?_
  ·refine z36 _ah hc (wy (by rfl) T.f13 (aQ (zP (zj7 (by exact hc)) (by rfl) T.f11 kj (aK zm (aQ (zP (zia (by exact hc)) (by rfl) T.f12 zbb (aQ (zP kU (by rfl) T.f9 ut (aN (zb 0) zf) (he:=(zy ..))) (aK zm zf)) (he:=(z1D ..))) zf)) (he:=(z3D ..))) zf)) (jJ 1 vB.nd) ?_;refine zd ?_ ?_;·exact (zZ 2 vB.nd (vj H__law_pot hr yh (aQ (vj H__law_cell_at hr yh (aN (zb 0) (aN (zb 1) zf))) zf) (he:=(z1D ..))))
   refine zd ?_ ?_;·exact (zZ 3 vB.nd (qW (zfq H__law_rules (hr.mono (by decide)) yh (by rfl)) (vj H__law_take hr yh (aN (zb 2) (aK zm zf)))))
   refine zd ?_ ?_;·exact (zZ 4 vB.nd (yd vC zm (vj H__law_take hr yh (aN (zb 2) (aK zm zf)))))
   refine zd ?_ ?_;·exact (zZ 5 vB.nd (yd vC zm (vj H__law_take hr yh (aN (zb 2) (aS (qW (vc (aK zm (aK zm (aK zm zf)))) (yd zd0 (zb 4) zm)) zf)))))
   refine zd ?_ ?_;·exact (z6W 6 ["_law_rule","_law_lot"] [some 3,none] vB.nd hc (jW (vj H__law_every hr yh (aN (zb 4) (aN (zb 5) zf)))) (fun _ _ _=>yr (i:=1) zlJ (by rfl) (by first | exact Or.inl rfl | exact Or.inr rfl)) (xa 1 (by rfl)) (fun _ _ _=>uO) (fun _ _ _=>(wT (aN (zb 1) (aQ (zP kU (by rfl) T.f9 ut (aS (qW (vj H__law_run hr yh (aN (zb 0) (aN (zb 1) zf))) zm) zf) (he:=(z1x ..))) zf)))))
   refine zd ?_ ?_;·exact (zZ 7 vB.nd (zP (z1Y (by exact hc)) (by rfl) T.f11 kj (aO (yS ["_law_lot","_law_steps"] [none,none] (by exact hc) (jW (zb 6)) (fun _ _ _=>vP 0 1 (by exact hc) zlb) (vI 0 1 (by decide) (by rfl) (by rfl)) (fun _ _ _=>uO) (fun _ _ _=>(zb 1))) zf) (he:=(xf ..))))
   refine zd ?_ ?_;·exact (zZ 8 vB.nd (wT (aN (zb 7) (aO (yS ["_law_most","_law_lot","_law_steps"] [some 7,none,none] (by exact hc) (jW (zb 6)) (fun _ _ _=>vP 1 2 (by exact hc) zlE) (vI 1 2 (by decide) (by rfl) (by rfl)) (fun _ _ _=>ww (yb (z5q hu) (zb 2) (zb 0))) (fun _ _ _=>(zb 1))) zf))))
   refine zd ?_ ?_
   ·refine z36 _ah hc (wy (by rfl) T.f13 (aK zm zf)) (jJ 9 vB.nd) ?_;refine zd ?_ ?_;·exact (zZ 10 vB.nd (vj H__law_told hr yh (aN (zb 3) (aN (zb 4) (aN (zb 5) zf)))))
    refine zd ?_ ?_
    ·refine z1G (kE (jo (vj H__law_same hr yh (aN (zb 10) (aN (zb 8) zf))))) ?_ ?_
     ·refine zj ?_;exact (yi zby)
     ·exact xc
    refine zj ?_;exact (vS (kK (qW (zb 10) zm) (wT zf)))
   refine zd ?_ ?_;·exact (zZ 11 vB.nd (qW (vc (aK zm (aK zm (aU (z5A zm) (aK zby (aK zby (aK zdr (aK yF (aT (wT (aK zm zf)) (aB (yd zcY zm zm) (aL (vc (aK zm zf)) zf))))))))))) (vj H__law_take hr yh (aN (zb 2) (aK zm zf)))))
   refine zd ?_ ?_;·exact (zZ 12 vB.nd (qW (vc (aK zm (aK zm (aK zm (aU (z5A zm) (aK zby (aK zdr (aK yF (aT (wT (aK zm zf)) (aB (yd zcY zm zm) (aL (vc (aK zm zf)) zf))))))))))) (vj H__law_take hr yh (aN (zb 2) (aK zm zf)))))
   refine zd ?_ ?_;·exact (zZ 13 vB.nd (vj H__law_no_rule hr yh (aN (zb 2) (aN (zb 3) zf))))
   refine zd ?_ ?_;·exact (zZ 14 vB.nd (vc (aQ (vj H__law_told hr yh (aN (zb 3) (aN (zb 4) (aN (zb 11) zf)))) (aQ (vj H__law_told hr yh (aN (zb 3) (aN (zb 12) (aN (zb 11) zf)))) (aQ (vj H__law_told hr yh (aN (zb 13) (aN (zb 12) (aN (zb 11) zf)))) zf)))))
   refine zj ?_;refine z1G (yb (z9v hu) (zb 14) (vc (aK yF (aK yF (aK yF zf))))) ?_ ?_
   ·refine zj ?_;exact (yi zby)
   ·exact xc
  refine zj ?_;exact (yi (jw (zjX hu) (vj H__law_told hr yh (aK yF (aK zm (aK zm zf)))) (wT (aK zm (aL (vc (aT (wT (aK zm (aK zm zf))) zf)) zf)))))
end
end K32
namespace Pr
open L2 Dd Pm Pg Pn Po
theorem kh:∀ (F:List (List Int)),D.flat.flats (F.map rD)=true
 | []=>rfl | r::T=>by
  have:=kh T;simp [D.flat.flats,D.flat,this,ye]
structure Sm(n m:Nat):Prop where
 pw:(m+1) ^ n<=2401
 pw1:(m+1) ^ (n-1)<=343
 one:n*m<=60
 lo:1<=m
 hi:m<=30
end Pr
namespace Pt
open L2 Dd Pm Pg Pn Po Pr
def cnt(r:Rl):Nat->List Int->Nat
 | 0,_=>0 | f+1,v=>if ended v=true then 0 else cnt r f (stp r v)+1
def nst(r:Rl)(v:List Int):Nat:=cnt r (mu r v) v
theorem z6P{n:Nat}{r:Rl}:∀ (f g:Nat)(v:List Int),Lot n v->mu r v<=f->mu r v<=g->cnt r f v=cnt r g v
 | 0,0,_,_,_,_=>rfl | 0,g+1,v,h,hf,hg=>by
  rw [cnt,cnt];by_cases e:ended v=true;·rw [_f e]
  ·have:=z3Z r h (by simpa using e);omega | f+1,0,v,h,hf,hg=>by
  rw [cnt,cnt];by_cases e:ended v=true;·rw [_f e]
  ·have:=z3Z r h (by simpa using e);omega | f+1,g+1,v,h,hf,hg=>by
  rw [cnt,cnt];by_cases e:ended v=true;·rw [_f e,_f e]
  ·have:=z3Z r h (by simpa using e);rw [_q e,_q e,z6P f g (stp r v) (h.step r (by simpa using e)) (by omega) (by omega)]
theorem z9G{r:Rl}{v:List Int}(e:ended v=true):nst r v=0:=by
 unfold nst;cases mu r v with
 | zero=>rfl | succ k=>rw [cnt,_f e]
theorem z7P{n:Nat}{r:Rl}{v:List Int}(h:Lot n v)(e:ended v=false):nst r v=nst r (stp r v)+1:=by
 have m:=z3Z r h e;have e1:nst r v=cnt r (mu r v+1) v:=z6P _ _ v h (_g _) (by omega);rw [e1,cnt,_q (by simp [e]),z6P (mu r v) (mu r (stp r v)) _ (h.step r e) (by omega) (_g _)];rfl
def K(v:List Int):List Key:=v.map Sum.inl
theorem zfE:∀ {v w:List Int},K v=K w->v=w
 | [],[],_=>rfl | [],_::_,h=>by simp [K] at h | _::_,[],h=>by simp [K] at h | x::v,y::w,h=>by
  simp only [K,_s,List.cons.injEq,Sum.inl.injEq] at h;rw [h.1,zfE (v:=v) (w:=w) h.2]
theorem z1w:∀ v:List Int,kT (iL v)=some (K v)
 | []=>rfl | x::v=>by
  have:=z1w v;simp only [iL,K] at this;simp [kT,this,K]
theorem zdo(v:List Int):D.tup ((K v).map z6n)=rD v:=by
 unfold K;rw [_aK];rfl
abbrev Kv:=List (List Key×V)
structure Lt(n b:Nat)(v:List Int):Prop where
 lot:Lot n v
 le:∀ x∈v,x<=(b:Int)
theorem Lt.step{n b:Nat}{v:List Int}(h:Lt n b v)(r:Rl)(e:ended v=false):Lt n b (stp r v):=⟨h.lot.step r e,zeE r h.lot e h.le⟩
theorem Lt.B{n b:Nat}{v:List Int}(h:Lt n b v)(hb:b<=900):LotB n 10 v:=⟨h.lot,fun x hx=>by
 have:=h.le x hx;have e:(2:Int) ^ 10=1024:=by decide
 omega⟩
structure Dk(n b:Nat)(d:Kv):Prop where
 nd:(d.map (·.1)).Nodup
 key:∀ p∈d,∃ v,Lt n b v/\p.1=K v/\∃ z:Nat,p.2=.int ((z:Nat):Int)
def Ok(r:Rl)(d:Kv):Prop:=∀ p∈d,∀ v,p.1=K v->p.2=.int (nst r v)
theorem Dk.all{n b:Nat}{d:Kv}(h:Dk n b d):zbJ d:=fun p hp=>by
 obtain ⟨v,_,_,z,e⟩:=h.key p hp;rw [e];rfl
theorem z3T{d:Kv}{k:List Key}{u:V}(h:va d k=some u):(k,u)∈d:=by
 unfold va at h;obtain ⟨p,hp,rfl⟩:=_v.mp h;have e:p.1=k:=by simpa using List.find?_some hp
 rw [<- e];exact List.mem_of_find?_eq_some hp
theorem zbh{d:Kv}{p:List Key×V}(h:p∈d):∃ u,va d p.1=some u:=by
 have:(d.any fun kv=>decide (kv.1=p.1))=true:=_dj.mpr ⟨p,h,by simp⟩;rw [qZ] at this;exact _ai.mp this
theorem z8w{d:Kv}{k:List Key}{u:V}{p:List Key×V}(h:p∈jq d k u):p=(k,u)\/(p∈d/\p.1≠k):=by
 unfold jq at h;split at h
 ·obtain ⟨q,hq,rfl⟩:=_F.mp h;by_cases e:q.1=k;·rw [_f e,e];exact .inl rfl
  ·rw [_q e];exact .inr ⟨hq,e⟩
 ·rename_i q;rcases _V.mp h with h | h
  ·refine .inr ⟨h,fun e=>q ?_⟩;exact _dj.mpr ⟨p,h,by simpa using e⟩
  ·exact .inl (by simpa using h)
theorem z5P{d:Kv}{k:List Key}{u:V}:(jq d k u).map (·.1)=if (d.any fun kv=>decide (kv.1=k))=true then d.map (·.1) else d.map (·.1)++[k]:=by
 unfold jq;split
 ·rw [_aK];refine _bc fun p hp=>?_;simp only [Function.comp];split;·rfl
  ·rfl
 ·simp
theorem Dk.put{n b:Nat}{d:Kv}(h:Dk n b d){v:List Int}(hv:Lt n b v)(z:Nat):Dk n b (jq d (K v) (.int z)):=by
 refine ⟨?_,fun p hp=>?_⟩
 ·rw [z5P];split;·exact h.nd
  ·rename_i q;rw [_cO];refine ⟨h.nd,by simp,fun a ha c hc e=>q ?_⟩;have hc:c=K v:=by simpa using hc
   obtain ⟨p,hp,rfl⟩:=_F.mp ha;exact _dj.mpr ⟨p,hp,by simpa using e.trans hc⟩
 ·rcases z8w hp with rfl | ⟨hp,_⟩;·exact ⟨v,hv,rfl,z,rfl⟩
  ·exact h.key p hp
theorem Ok.put{r:Rl}{d:Kv}(h:Ok r d){v:List Int}:Ok r (jq d (K v) (.int (nst r v))):=fun p hp w e=>by
 rcases z8w hp with rfl | ⟨hp,_⟩;·rw [zfE e]
 ·exact h p hp w e
theorem Ok.val{r:Rl}{d:Kv}(h:Ok r d){v:List Int}{u:V}(e:va d (K v)=some u):u=.int (nst r v):=h _ (z3T e) v rfl
theorem len_sub {α:Type}:∀ {l m:List α},l.Nodup->(∀ x∈l,x∈m)->l.length<=m.length
 | [],m,_,_=>_ae _ | a::l,m,nd,h=>by
  obtain ⟨h1,h2⟩:=_bA.mp nd;obtain ⟨p,q,rfl⟩:=List.append_of_mem (h a (.head _));have:=len_sub (l:=l) (m:=p++q) h2 fun x hx=>by
   have z:=h x (.tail _ hx);have ne:x≠a:=fun e=>h1 (e ▸ hx);rcases _V.mp z with z | z;·exact _ad _ z
   ·rcases _z.mp z with z | z;·exact absurd z ne
    ·exact _p _ z
  simp only [_X,_i] at this ⊢;omega
def rngI(m:Nat):List Int:=(List.range (m+1)).map fun k:Nat=>((k:Nat):Int)
theorem z7S{m:Nat}{x:Int}:x∈rngI m ↔ 0<=x/\x<=m:=by
 unfold rngI;rw [_F];constructor
 ·rintro ⟨k,hk,rfl⟩;rw [_aB] at hk;omega
 ·rintro ⟨h0,h1⟩;exact ⟨x.toNat,by rw [_aB];omega,by omega⟩
theorem zfS(m:Nat):(rngI m).Pairwise (· < ·):=by
 unfold rngI;rw [_cU];exact List.pairwise_lt_range.imp fun {a b} h=>by omega
def wY(n m:Nat):List (List Int):=qP (List.replicate n (rngI m))
theorem z2F(n m:Nat):wY (n+1) m=z3k (wY n m) (rngI m):=by
 unfold wY;rw [List.replicate_succ',jc]
theorem kf {n m:Nat}:(wY n m).length<=(m+1) ^ n:=by
 have:=zbK (List.replicate n (rngI m)) (k:=m+1) fun c hc=>by rw [_av hc];simp [rngI]
 simpa [wY] using this
theorem z78(n m:Nat):Up (wY n m):=zcw _ fun c hc=>by rw [_av hc];exact zfS m
theorem jf{n m:Nat}{v:List Int}:v∈wY n m ↔ v.length=n/\∀ x∈v,0<=x/\x<=m:=by
 unfold wY;rw [z5M,_bS];constructor
 ·rintro ⟨h1,h2⟩;refine ⟨h1,fun x hx=>?_⟩;obtain ⟨i,hi,rfl⟩:=_D.mp hx;have:=h2 i (by omega);rw [show v.getD i 0=v[i] by simp [_k,hi],show (List.replicate n (rngI m)).getD i []=rngI m by simp [_k,show i<n by omega]] at this;exact z7S.mp this
 ·rintro ⟨h1,h2⟩;refine ⟨h1,fun i hi=>?_⟩;rw [show (List.replicate n (rngI m)).getD i []=rngI m by simp [_k,hi]];exact z7S.mpr (h2 _ (Pm.getD_mem (by omega)))
theorem z2u(m:Nat):∀ n,∃ t,wY n m=List.replicate n 0::t
 | 0=>⟨[],rfl⟩ | n+1=>by
  obtain ⟨t,e⟩:=z2u m n;rw [z2F,e,z3k,List.flatMap_cons];have:rngI m=0::(rngI m).tail:=by unfold rngI;rw [List.range_succ_eq_map];rfl
  rw [this,_s,_bs,List.replicate_succ'];exact ⟨_,rfl⟩
def every(n m:Nat):List (List Int):=(wY n m).drop 1
theorem wR{n m:Nat}(hn:Sz n){v:List Int}:v∈every n m ↔ Lt n m v:=by
 obtain ⟨t,e⟩:=z2u m n;have up:=(List.pairwise_cons.mp (e ▸ z78 n m)).1;have et:every n m=t:=by unfold every;rw [e];rfl
 rw [et];constructor
 ·intro h;have h1:v∈wY n m:=by rw [e];exact .tail _ h
  obtain ⟨l,b⟩:=jf.mp h1;refine ⟨⟨hn,l,fun x hx=>(b x hx).1,?_⟩,fun x hx=>(b x hx).2⟩;refine _ag fun z=>?_;have ez:v=List.replicate n 0:=by
   rw [List.eq_replicate_iff];refine ⟨l,fun x hx=>?_⟩;have:=(b x hx).1;refine _ag fun q=>z ⟨x,hx,by omega⟩
  have:=up v h;rw [ez,z42] at this;cases this
 ·rintro ⟨h,b⟩;have h1:v∈wY n m:=jf.mpr ⟨h.len,fun x hx=>⟨h.nn x hx,b x hx⟩⟩;rw [e] at h1;rcases _z.mp h1 with z | z
  ·obtain ⟨x,hx,p⟩:=h.pos;rw [z] at hx;rw [_av hx] at p;omega
  ·exact z
theorem Dk.len {n b:Nat} {d:Kv} (h:Dk n b d) (hn:Sz n):d.length<=(b+1) ^ n:=by
 have h1:=len_sub (l:=d.map (·.1)) (m:=(wY n b).map K) h.nd fun k hk=>by
  obtain ⟨p,hp,rfl⟩:=_F.mp hk;obtain ⟨v,hv,e,_⟩:=h.key p hp;rw [e];exact List.mem_map_of_mem (jf.mpr ⟨hv.lot.len,fun x hx=>⟨hv.lot.nn x hx,hv.le x hx⟩⟩)
 simp only [_B] at h1;exact _U h1 kf
theorem zeq{n b:Nat}{d:Kv}(h:Dk n b d){s:Sto}{l:Nat}(e:s[l]? = some (encD d))(v:List Int):qF s (.dlo l) (rD v)=some (va d (K v)):=by simp only [qF,e,_J,z3R h.all,z1w]
theorem ziB{n b:Nat}{d:Kv}(h:Dk n b d){s:Sto}{l:Nat}(e:s[l]? = some (.non::encD d))(v:List Int):qF s (.dlo l) (rD v)=some (va d (K v)):=by
 have:zc3 (.non::encD d)=some d:=dec_enc h.all;simp only [qF,e,_J,this,z1w]
theorem zfi{n b:Nat}{d:Kv}(h:Dk n b d){fo fk fv:FE}{Z:Ev}{s s1:Sto}{l:Nat}{v:List Int}{z:Nat}(hv:fv Z s=.ok (.int z) s1)(ho:fo Z s1=.ok (.dlo l) s1)(hk:fk Z s1=.ok (rD v) s1)(e:s1[l]? = some (encD d))(hl:d.length<cap): zbA fo fk fv Z s=.ok (.nx Z) (s1.set l (encD (jq d (K v) (.int z)))):=by simp only [zbA,hv,ho,hk,Rb,vV,e,_J,dec_enc h.all,z1w,_f hl]
end Pt
namespace Pp
open L2 Dd
open Pm Pg
theorem zah(s:Sto)(a b:List D):(s++[a]).set s.length b=s++[b]:=by rw [_aG _ _ (by omega)];simp
open Pn
theorem z98{x a b:Int}(h1:a<=x)(h2:x<=b)(s:Sto):wc [.int x,.int a,.int b] s=.ok .non s:=by
 have w:zV [.int x] s=.ok (.bl true) s:=jZ (by rfl) s;have st:zt ["thing","least","most"] [.int x,.int a,.int b]=[some (.int x),some (.int a),some (.int b)]:=rfl;simp only [wc,Mof,jE,st,_i,_u,_H];rw [qD,zcX];·rfl
 ·refine zkz (not_t (z2X ?_)) (not_t (z2X ?_));·rw [ur (x:=.int x) (by simp)];exact w
  ·simp [h1,h2]
end Pp
namespace Pr
open L2 Dd Pm Pg Pn Po Pp
section
variable {n m:Nat}{g:List Int}(h:Lot n g)(S:Sm n m)(hg:∀ x∈g,x<=1000)(r:Rl)
include h S
include hg
end
end Pr
namespace Pt
open L2 Dd Pm Pg Pn Po Pr Pp
theorem zcO {n m:Nat} (hn:n<=4) (hm:m<=30) (hs:(m+1) ^ n<=90000) (s:Sto):zX [.int n,.int 0,.int m] s=.ok (.lst ((wY n m).map rD)) s:=by
 have f1:yY [some (.int n),some (.int 0),some (.int m),none,none] s=.ok (.nx [some (.int n),some (.int 0),some (.int m),some (.lst ((wY 0 m).map rD)),none]) s:=by
  rw [yY,zK,z29,zu,vJ,zF];simp [cap,wY,qP]
 obtain ⟨Z',S',lp,a4,hZ,rfl⟩:=jk (all:=(List.range n).map fun k:Nat=>D.int ((k:Nat):Int)) (body:=fun x Z s=>(wo 4 x Z s).bind fun Z' s'=>yZ Z' s') (fun i Z S'=>∃ a4,Z=[some (.int n),some (.int 0),some (.int m),some (.lst ((wY i m).map rD)),a4]/\S'=s) ((List.range n).map fun k:Nat=>D.int ((k:Nat):Int)) 0 (by
   intro i x hx Z S' ⟨a4,hZ,hS⟩;subst hZ hS;rw [_W];have hi:i<n:=by have:=(_b.mp hx).1;simpa using this
   have eg:((wY i m).flatMap fun a=>(List.range (m+1)).map fun k=>rD (a++[((k:Nat):Int)]))=(wY (i+1) m).map rD:=by
    rw [z2F,z3k,List.map_flatMap,rngI];simp [_aO]
   have c:=zb4 (fi:=xb (zc 3)) (mp:=[some 1,some 2,none,none]) (k1:=2) (k2:=3) (fi2:=zaf (za (zc 0) (za (eOp qr (zc 1) (eC (.int 1))) zi))) (fe:=eOp qr (zc 2) (qq (za (zc 3) zi))) (Z:=[some (.int n),some (.int 0),some (.int m),some (.lst ((wY i m).map rD)),some x]) (s:=S') rD (fun _ (k:Nat)=>D.int ((k:Nat):Int)) (wY i m) (fun _=>List.range (m+1)) (fun a k=>rD (a++[((k:Nat):Int)])) (ve (vr rfl)) (fun a _=>by
     rw [zfu,zu,vr (d:=.int 0) rfl,Rb,zu,op2 (x:=.int m) (y:=.int 1) (vr rfl) rfl,z5w,Rb,zF];simp only [Rb];rw [_f (by omega),show ((m:Int)+1-0).toNat=m+1 by omega];simp [jR]) (fun a ha k _=>by
     have la:=(jf.mp ha).1;rw [op2 (x:=rD a) (y:=rD [(k:Int)]) (vr rfl) (by
      rw [vJ,zu,vr (d:=.int k) rfl,Rb,zF];simp [cap]),z5B,_f (by simp [cap];omega)];simp) (by
     rw [eg,_B];have h1:=kf (n:=i+1) (m:=m);have h2:(m+1) ^ (i+1)<=(m+1) ^ n:=_af (by omega) (by omega);have:(90000:Nat)<=cap:=by unfold cap;omega
     omega);rw [eg] at c;refine ⟨[some (.int n),some (.int 0),some (.int m),some (.lst ((wY (i+1) m).map rD)),some x],S',?_,some x,rfl,rfl⟩;rw [z6m,Rb];show yZ [some (.int n),some (.int 0),some (.int m),some (.lst ((wY i m).map rD)),some x] S'=_;rw [yZ,zK,c];rfl) [some (.int n),some (.int 0),some (.int m),some (.lst ((wY 0 m).map rD)),none] s ⟨none,rfl,rfl⟩;rw [_W,_B,_cW] at hZ;have f2:yW [some (.int n),some (.int 0),some (.int m),some (.lst ((wY 0 m).map rD)),none] S'=.ok (.nx Z') S':=by
  rw [yW,kQ,vY (n:=n) (s1:=S') (by omega) (by rw [zu,vr (d:=.int n) rfl,Rb,zF];rfl),Rb];exact lp
 have key:∀ (dn dz dm d0 d:D) (a4:Option D),yY [some dn,some dz,some dm,none,none] S'=.ok (.nx [some dn,some dz,some dm,some d0,none]) S'->yW [some dn,some dz,some dm,some d0,none] S'=.ok (.nx [some dn,some dz,some dm,some d,a4]) S'->zX [dn,dz,dm] S'=.ok d S':=fun dn dz dm d0 d a4 h1 h2=>by
  have st:zt ["size","least","most","found","place"] [dn,dz,dm]=[some dn,some dz,some dm,none,none]:=rfl;simp only [zX,Mof,ui,st,_i,_u,_H];rw [zh h1,zh h2];rfl
 rw [hZ] at f2;exact key _ _ _ _ _ _ f1 f2
theorem z2a{n b:Nat}(h1:2<=n)(h2:n<=b)(s:Sto):vp [.int n,.int b] s=.ok .non s:=by
 have w:=jh (n:Int) s;have a1:decide ((2:Int)<=(n:Int))=true:=_cv (by omega);have a2:decide ((n:Int)<=(b:Int))=true:=_cv (by omega);have a3:¬ b<n:=by omega
 simp [vp,Mof,z0M,zt,w,a1,a2,a3]
def wk(r:Rl)(d:Kv):Nat->List Int->List (List Int)
 | 0,c=>[c] | f+1,c=>if (va d (K c)).isSome=true\/ended c=true then [c] else c::wk r d f (stp r c)
inductive Chain(r:Rl):List (List Int)->Prop | one (c:List Int):Chain r [c] | cons {c:List Int}{t:List (List Int)}:ended c=false->Chain r (stp r c::t)->Chain r (c::stp r c::t)
theorem zav(r:Rl)(d:Kv)(f:Nat)(c:List Int):∃ t,wk r d f c=c::t:=by cases f with
 | zero=>exact ⟨[],rfl⟩ | succ f=>
  rw [wk];split;·exact ⟨[],rfl⟩
  ·exact ⟨_,rfl⟩
theorem z83(r:Rl)(d:Kv):∀ (f:Nat)(c:List Int),Chain r (wk r d f c)
 | 0,c=>.one c | f+1,c=>by
  rw [wk];split;·exact .one c
  ·rename_i q;have ih:=z83 r d f (stp r c);obtain ⟨t,e⟩:=zav r d f (stp r c);rw [e] at ih ⊢;exact .cons (by cases h:ended c with | false=>rfl | true=>exact absurd (.inr h) q) ih
theorem zgx{n b:Nat}{r:Rl}{d:Kv}:∀ (f:Nat)(c:List Int),Lt n b c->∀ v∈wk r d f c,Lt n b v
 | 0,c,h,v,hv=>by rw [_Z.mp hv];exact h | f+1,c,h,v,hv=>by
  rw [wk] at hv;split at hv;·rw [_Z.mp hv];exact h
  ·rename_i q;rcases _z.mp hv with rfl | hv;·exact h
   ·exact zgx f _ (h.step r (by cases z:ended c with | false=>rfl | true=>exact absurd (.inr z) q)) v hv
theorem zbl {n b:Nat} {r:Rl} {d:Kv}:∀ (f:Nat) (c:List Int),Lt n b c->mu r c<=f->∃ p e,wk r d f c=p++[e]/\((va d (K e)).isSome=true\/ended e=true)
 | 0,c,h,hf=>by
  refine ⟨[],c,rfl,?_⟩;cases z:ended c with
  | true=>exact .inr rfl | false=>have:=z3Z r h.lot z;omega
 | f+1,c,h,hf=>by
  rw [wk];split;·rename_i q;exact ⟨[],c,rfl,q⟩
  ·rename_i q;have z:ended c=false:=by cases z:ended c with | false=>rfl | true=>exact absurd (.inr z) q
   have:=z3Z r h.lot z;obtain ⟨p,e,h1,h2⟩:=zbl (r:=r) (d:=d) f (stp r c) (h.step r z) (by omega);exact ⟨c::p,e,by rw [h1];rfl,h2⟩
theorem z2i{n b:Nat}{r:Rl}{W:List (List Int)}(h:Chain r W):(∀ v∈W,Lt n b v)->∀ (j:Nat)(v:List Int),W.reverse[j]? = some v->∃ e,W.reverse[0]? = some e/\nst r v=nst r e+j:=by induction h with
 | one c=>
  intro _ j v hj;have:j=0:=by have:=(_b.mp hj).1;simp at this;omega
  subst this;exact ⟨v,hj,rfl⟩ | @cons c t he h ih=>
  intro hl j v hj;have ih:=ih fun v hv=>hl v (.tail _ hv);rw [_ar] at hj ⊢;have z0:((stp r c::t).reverse++[c])[0]? = (stp r c::t).reverse[0]? := _o (by simp);rw [z0];by_cases q:j<(stp r c::t).reverse.length
  ·rw [_o q] at hj;exact ih j v hj
  ·rw [_T (by omega)] at hj;have e1:j-(stp r c::t).reverse.length=0:=by have:=(_b.mp hj).1;simp at this ⊢;omega
   rw [e1] at hj;have:v=c:=by simpa using hj.symm
   subst this;obtain ⟨e,h1,h2⟩:=ih t.length (stp r v) (by rw [_ar,_T (by simp)];simp);refine ⟨e,h1,?_⟩;rw [z7P (hl v (.head _)).lot he,h2];simp at e1 q;omega
abbrev F8(a0 a1 a2 a3 a4 a5 a6 a7:Option D):Ev:=[a0,a1,a2,a3,a4,a5,a6,a7]
abbrev zjF:FT:=zfg (tOf (eOp (zgJ true) (eOp dIx (zc 5) (z2K (eC (.int 1)))) (zc 3))) (z1c (tOf (zg yq (za (eOp dIx (zc 5) (z2K (eC (.int 1)))) zi))))
section
variable {n b:Nat}{r:Rl}{d:Kv}{S:Sto}{l:Nat}(hd:Dk n b d)(hl:S[l]? = some (encD d))(hb:b<=900){a1 a2 a4 a6 a7:Option D}
include hd hl hb
theorem zaK (ps:List (List Int)) (c:List Int) (a0:Option D):eOp dIx (zc 5) (z2K (eC (.int 1))) (F8 a0 a1 a2 (some (.dlo l)) a4 (some (.loc S.length)) a6 a7) (S++[(ps++[c]).map rD])=.ok (rD c) (S++[(ps++[c]).map rD]):=by
 rw [op2 (x:=.loc S.length) (y:=.int (-1)) (vr rfl) rfl];exact z7D (xs:=ps.map rD) (by simp [zW])
theorem z8B {c:List Int} (hc:Lt n b c) (ps:List (List Int)) (a0:Option D):zjF (F8 a0 a1 a2 (some (.dlo l)) a4 (some (.loc S.length)) a6 a7) (S++[(ps++[c]).map rD])=.ok (!(va d (K c)).isSome&&!ended c) (S++[(ps++[c]).map rD]):=by
 have ll:l<S.length:=(_b.mp hl).1;have hl2:(S++[(ps++[c]).map rD])[l]? = some (encD d):=by rw [_o ll];exact hl
 have ix:=zaK (a1:=a1) (a2:=a2) (a4:=a4) (a6:=a6) (a7:=a7) hd hl hb ps c a0;have he:=z1H hc.lot (S++[(ps++[c]).map rD]);have da:=zeq hd hl2 c;generalize S++[(ps++[c]).map rD]=T at *;unfold zjF;rw [zeC,z2X (b:=!(va d (K c)).isSome) (by
  rw [op2 (x:=rD c) (y:=.dlo l) ix (vr rfl)];simp only [zgJ,da];rfl),Rb];cases (va d (K c)).isSome with
 | true=>rfl | false=>
  rw [_f (by rfl:(!false)=true),z8G,z2X (b:=ended c) (by rw [ur (x:=rD c) ix];exact he),Rb];rfl
theorem z5v:∀ (f:Nat) (c:List Int) (ps:List (List Int)),Lt n b c->mu r c<=f->ps.length+f+1<90000-> vq zjF xG (f+1) (F8 (some (.str (nmR r))) a1 a2 (some (.dlo l)) a4 (some (.loc S.length)) a6 a7) (S++[(ps++[c]).map rD])=.ok (.nx (F8 (some (.str (nmR r))) a1 a2 (some (.dlo l)) a4 (some (.loc S.length)) a6 a7)) (S++[(ps++wk r d f c).map rD])
 | 0,c,ps,h,hf,hp=>by
  have t:=z8B (a1:=a1) (a2:=a2) (a4:=a4) (a6:=a6) (a7:=a7) hd hl hb h ps (some (.str (nmR r)));have e:ended c=true:=by cases z:ended c with
   | true=>rfl | false=>have:=z3Z r h.lot z;omega
  rw [e,Bool.not_true,Bool.and_false] at t;rw [vq,t,Rb];rfl | f+1,c,ps,h,hf,hp=>by
  have t:=z8B (a1:=a1) (a2:=a2) (a4:=a4) (a6:=a6) (a7:=a7) hd hl hb h ps (some (.str (nmR r)));rw [vq,t,Rb,wk];by_cases q:(va d (K c)).isSome=true\/ended c=true;·rw [_f q,_q (by rcases q with q | q<;>simp [q])]
  ·have z:ended c=false:=by cases z:ended c with | false=>rfl | true=>exact absurd (.inr z) q
   have k:(va d (K c)).isSome=false:=by cases k:(va d (K c)).isSome with | false=>rfl | true=>exact absurd (.inl k) q
   have m:=z3Z r h.lot z;rw [_q q,_f (by simp [z,k])];have ix:=zaK (a1:=a1) (a2:=a2) (a4:=a4) (a6:=a6) (a7:=a7) hd hl hb ps c (some (.str (nmR r)));have sp:=zhQ r (h.B hb) z (by decide) (S++[(ps++[c]).map rD]);have fl:(rD (stp r c)).flat=true:=ye _;have ih:=z5v f (stp r c) (ps++[c]) (h.step r z) (by omega) (by simp;omega);have ea:(ps++[c]++[stp r c]).map rD=(ps++[c]).map rD++[rD (stp r c)]:=by simp
   rw [_a8 ps [c] (wk r d f (stp r c)),ea] at ih;have ln:((ps++[c]).map rD).length<90000:=by simp;omega
   have f5:xG (F8 (some (.str (nmR r))) a1 a2 (some (.dlo l)) a4 (some (.loc S.length)) a6 a7) (S++[(ps++[c]).map rD])=.ok (.nx (F8 (some (.str (nmR r))) a1 a2 (some (.dlo l)) a4 (some (.loc S.length)) a6 a7)) (S++[(ps++[c]).map rD++[rD (stp r c)]]):=by
    generalize (ps++[c]).map rD=X at *;generalize rD (stp r c)=y at *;generalize rD c=w at *;rw [xG,wD,z6t,vr (d:=.loc S.length) rfl,Rb];simp only;rw [call2 (x:=.str (nmR r)) (y:=w) (vr rfl) ix,sp,Rb];have gt:(S++[X])[S.length]? = some X:=by simp
    rw [gt];simp only;rw [_f ⟨fl,by unfold cap;omega⟩,zah];rfl
   rw [f5,Rb];exact ih
end
def zgu(d d':Kv):Prop:=∀ k,(va d k).isSome=true->(va d' k).isSome=true
theorem zgu.put(d:Kv)(k:List Key)(u:V):zgu d (jq d k u):=fun j h=>by
 rw [z45];split;·rfl
 ·exact h
abbrev zj4:D->Ev->Sto->R Fl:=fun x Z s=>(wo 7 x Z s).bind fun Z' s'=>(zn yG wW) Z' s'
abbrev zhW:D->Ev->Sto->R Fl:=fun x Z s=>(wo 4 x Z s).bind fun Z' s'=>(zn yB (zn yE (zn yD xJ))) Z' s'
def unK(k:List Key):List Int:=k.map fun | .inl i=>i | .inr _=>0
theorem z57:∀ v:List Int,unK (K v)=v
 | []=>rfl | x::v=>by
  have:=z57 v;simp only [unK,K,_s] at this ⊢;rw [this]
def flt(r:Rl)(M:Nat)(d:Kv):List (List Int):=((d.map (·.1)).map unK).filter fun w=>decide (nst r w=M)
theorem z9N{r:Rl}{M:Nat}{d:Kv}{v:List Int}{u:V}(h:nst r v=M->(va d (K v)).isSome=false):flt r M (jq d (K v) u)=flt r M d++if nst r v=M then [v] else []:=by
 unfold flt;rw [z5P];by_cases q:(d.any fun kv=>decide (kv.1=K v))=true;·rw [_f q,_q (fun z=>by have:=h z;rw [<- qZ,q] at this;cases this),_aP]
 ·rw [_q q,_ci,_cB];by_cases z:nst r v=M;·simp [z57,z]
  ·simp [z57,z]
def z4Z(r:Rl)(d:Kv):List (List Int)->Kv
 | []=>d | v::W=>z4Z r (jq d (K v) (.int (nst r v))) W
theorem z49(r:Rl):∀ (W:List (List Int))(d:Kv)(v:List Int),z4Z r d (W++[v])=jq (z4Z r d W) (K v) (.int (nst r v))
 | [],d,v=>rfl | w::W,d,v=>z49 r W _ v
theorem z9D{r:Rl}{M:Nat}:∀ (W:List (List Int))(d:Kv),(∀ w∈W,nst r w<M)->flt r M (z4Z r d W)=flt r M d
 | [],d,_=>rfl | w::W,d,h=>by
  have hw:=h w (.head _);rw [z4Z,z9D W _ fun x hx=>h x (.tail _ hx),z9N (fun z=>by omega),_q (by omega),_aP]
theorem z9M{r:Rl}{v:List Int}:∀ (W:List (List Int))(d:Kv),v∉W->va (z4Z r d W) (K v)=va d (K v)
 | [],d,_=>rfl | w::W,d,h=>by rw [z4Z,z9M W _ (fun z=>h (.tail _ z)),z45,_q (fun z=>h (by rw [zfE z];exact .head _))]
theorem z9m {n b:Nat} {r:Rl} (hn:Sz n) (hb:(b+1) ^ n<=90000) {W:List (List Int)} (ch:Chain r W) (hW:∀ v∈W,Lt n b v) {e:List Int} (he:W.reverse[0]? = some e) {d:Kv} {S:Sto} {l:Nat} (hd:Dk n b d) (ho:Ok r d) (hl:S[l]? = some (encD d)) (a0 a1 a2 a4 a5 a7:Option D): ∃ b6 b7 S',wU [] (W.reverse.map rD) zj4 (W.reverse.map rD) (F8 a0 a1 a2 (some (.dlo l)) a4 a5 (some (.int (nst r e))) a7) S=.ok (.nx (F8 a0 a1 a2 (some (.dlo l)) a4 a5 b6 b7)) S'/\Dk n b (z4Z r d W.reverse)/\Ok r (z4Z r d W.reverse)/\S'[l]? = some (encD (z4Z r d W.reverse))/\zgu d (z4Z r d W.reverse)/\(∀ v∈W,(va (z4Z r d W.reverse) (K v)).isSome=true)/\S'.length=S.length/\∀ j,j≠l->S'[j]? = S[j]? := by
 obtain ⟨Z',S',lp,z7,hZ,h1,h2,h3,h4,h5,h6,h7⟩:=jk (all:=W.reverse.map rD) (body:=zj4) (fun j Z S'=>∃ z7,Z=F8 a0 a1 a2 (some (.dlo l)) a4 a5 (some (.int ((nst r e+j:Nat):Int))) z7/\Dk n b (z4Z r d (W.reverse.take j))/\Ok r (z4Z r d (W.reverse.take j))/\S'[l]? = some (encD (z4Z r d (W.reverse.take j)))/\zgu d (z4Z r d (W.reverse.take j))/\(∀ v∈W.reverse.take j,(va (z4Z r d (W.reverse.take j)) (K v)).isSome=true)/\S'.length=S.length/\∀ j,j≠l->S'[j]? = S[j]?) (W.reverse.map rD) 0 (by
  intro j x hx Z S1 ⟨z7,hZ,h1,h2,h3,h4,h5,h6,h7⟩;subst hZ;rw [_W] at h1 h2 h3 h4 h5 ⊢;rw [_P,_v] at hx;obtain ⟨v,hv,rfl⟩:=hx;obtain ⟨e',he',hj⟩:=z2i ch hW j v hv;rw [he] at he';cases he';have hvW:v∈W:=List.mem_reverse.mp (_A hv);have ts:W.reverse.take (j+1)=W.reverse.take j++[v]:=by rw [_cX,hv];rfl
  rw [ts,z49];generalize z4Z r d (W.reverse.take j)=d1 at *;have ln:d1.length<cap:=by have:=h1.len hn;unfold cap;omega
  have l1:l<S1.length:=(_b.mp h3).1;have f8:yG (F8 a0 a1 a2 (some (.dlo l)) a4 a5 (some (.int ((nst r e+j:Nat):Int))) (some (rD v))) S1=.ok (.nx (F8 a0 a1 a2 (some (.dlo l)) a4 a5 (some (.int ((nst r e+j:Nat):Int))) (some (rD v)))) (S1.set l (encD (jq d1 (K v) (.int (nst r v))))):=by
   rw [yG,hj];exact zfi h1 (vr rfl) (vr rfl) (vr rfl) h3 ln
  refine ⟨F8 a0 a1 a2 (some (.dlo l)) a4 a5 (some (.int ((nst r e+(j+1):Nat):Int))) (some (rD v)),S1.set l (encD (jq d1 (K v) (.int (nst r v)))),?_,some (rD v),rfl,h1.put (hW v hvW) _,h2.put,_O l1,fun k hk=>zgu.put _ _ _ k (h4 k hk),fun w hw=>?_,by rw [_bC,h6],fun i hi=>by rw [_C (_a5 hi),h7 i hi]⟩
  ·show (zn yG wW) (F8 a0 a1 a2 (some (.dlo l)) a4 a5 (some (.int ((nst r e+j:Nat):Int))) (some (rD v))) S1=_;rw [zh f8];rfl
  ·rcases _V.mp hw with hw | hw;·exact zgu.put _ _ _ _ (h5 w hw)
   ·rw [_Z.mp hw,z45,_f rfl];rfl) (F8 a0 a1 a2 (some (.dlo l)) a4 a5 (some (.int (nst r e))) a7) S ⟨a7,rfl,hd,ho,hl,fun _ h=>h,by simp,rfl,fun _ _=>rfl⟩;rw [_W,_B,_dk] at h1 h2 h3 h4 h5;exact ⟨_,z7,S',lp.trans (by rw [hZ]),h1,h2,h3,h4,fun v hv=>h5 v (List.mem_reverse.mpr hv),h6,h7⟩
abbrev G8(r:Rl)(a1 a2:Option D)(l:Nat)(v:List Int)(a5 a6 a7:Option D):Ev:=F8 (some (.str (nmR r))) a1 a2 (some (.dlo l)) (some (rD v)) a5 a6 a7
theorem zap {n b:Nat} {r:Rl} (hn:Sz n) (hb:b<=30) (hb2:(b+1) ^ n<=90000) {v:List Int} (hv:Lt n b v) {M:Nat} (hM:nst r v<=M) {d:Kv} {S:Sto} {l:Nat} (hd:Dk n b d) (ho:Ok r d) (hl:S[l]? = some (encD d)) (new:nst r v=M->(va d (K v)).isSome=false) (a1 a2 a4 a5 a6 a7:Option D): ∃ b5 b6 b7 d' S',zhW (rD v) (F8 (some (.str (nmR r))) a1 a2 (some (.dlo l)) a4 a5 a6 a7) S=.ok (.nx (G8 r a1 a2 l v b5 b6 b7)) S'/\Dk n b d'/\Ok r d'/\S'[l]? = some (encD d')/\zgu d d'/\(va d' (K v)).isSome=true/\flt r M d'=flt r M d++(if nst r v=M then [v] else [])/\S.length<=S'.length/\∀ j,j≠l->j<S.length->S'[j]? = S[j]? := by
 have mb:mu r v<=103:=by
  have:=zgN (m:=5) (r:=r) hv.lot fun x hx=>by
   have h1:=hv.le x hx;have h2:=hv.lot.nn x hx;have:x.toNat<=30:=by omega
   exact Nat.lt_of_le_of_lt this (by decide)
  omega
 have ll:l<S.length:=(_b.mp hl).1;obtain ⟨p,e,hpe,hlast⟩:=zbl (r:=r) (d:=d) 103 v hv mb;have he:Lt n b e:=zgx (r:=r) (d:=d) 103 v hv e (by rw [hpe];simp);have f3:yB (G8 r a1 a2 l v a5 a6 a7) S=.ok (.nx (G8 r a1 a2 l v (some (.loc S.length)) a6 a7)) (S++[([]++[v]).map rD]):=by
  have fl:=kh [v];simp only [_s,_cp] at fl;simp only [_aQ,_s,_cp];unfold G8;generalize rD v=x at *;rw [yB,zK,z3F,zu,vr (d:=x) rfl,Rb,zF];simp only [Rb];rw [_f ⟨by simp [cap],fl⟩];rfl
 have f4:yE (G8 r a1 a2 l v (some (.loc S.length)) a6 a7) (S++[([]++[v]).map rD])=.ok (.nx (G8 r a1 a2 l v (some (.loc S.length)) a6 a7)) (S++[(wk r d 103 v).map rD]):=by
  have lp:=z5v (r:=r) (a1:=a1) (a2:=a2) (a4:=some (rD v)) (a6:=a6) (a7:=a7) hd hl (by omega) 103 v [] hv mb (by simp);rw [_aQ (wk r d 103 v)] at lp;rw [yE];exact z8q lp (by simp)
 have hl2:(S++[(wk r d 103 v).map rD])[l]? = some (encD d):=by rw [_o ll];exact hl
 have da:=zeq hd hl2 e;have f6:yD (G8 r a1 a2 l v (some (.loc S.length)) a6 a7) (S++[(wk r d 103 v).map rD])=.ok (.nx (G8 r a1 a2 l v (some (.loc S.length)) (some (.int (nst r e))) a7)) (S++[(wk r d 103 v).map rD]):=by
  have ix:eOp dIx (zc 5) (z2K (eC (.int 1))) (G8 r a1 a2 l v (some (.loc S.length)) a6 a7) (S++[(wk r d 103 v).map rD])=.ok (rD e) (S++[(wk r d 103 v).map rD]):=by
   rw [op2 (x:=.loc S.length) (y:=.int (-1)) (vr rfl) rfl];exact z7D (xs:=p.map rD) (by simp [zW,hpe])
  generalize S++[(wk r d 103 v).map rD]=T at *;rw [yD,zK,zcC,vr (d:=.dlo l) rfl,Rb];simp only;rw [ix,Rb,z1u,Rb,da];cases hval:va d (K e) with
  | some u=>rw [ho.val hval];rfl | none=>
   have:ended e=true:=hlast.resolve_left (by simp [hval]);rw [z9G this];rfl
 have rev0:(wk r d 103 v).reverse[0]? = some e:=by rw [hpe];simp
 have ch:=z83 r d 103 v;have hW:=zgx (r:=r) (d:=d) 103 v hv;obtain ⟨b6,b7,S',lp,h1,h2,h3,h4,h5,h6,h7⟩:=z9m hn hb2 ch hW rev0 hd ho hl2 (some (.str (nmR r))) a1 a2 (some (rD v)) (some (.loc S.length)) a7;obtain ⟨t,ht⟩:=zav r d 103 v;have low:∀ w∈t.reverse,nst r w<nst r v:=fun w hw=>by
  obtain ⟨j,hj⟩:=List.getElem?_of_mem hw;have lt:=(_b.mp hj).1;have g1:(wk r d 103 v).reverse[j]? = some w:=by rw [ht,_ar,_o lt];exact hj
  have g2:(wk r d 103 v).reverse[t.length]? = some v:=by rw [ht,_ar,_T (by simp)];simp
  obtain ⟨e1,q1,n1⟩:=z2i ch hW j w g1;obtain ⟨e2,q2,n2⟩:=z2i ch hW t.length v g2;rw [q1] at q2;cases q2;simp at lt;omega
 refine ⟨some (.loc S.length),b6,b7,_,S',?_,h1,h2,h3,h4,h5 v ?_,?_,by rw [h6];simp,fun j hj hlt=>by rw [h7 j hj,_o hlt]⟩
 ·show (zn yB (zn yE (zn yD xJ))) (G8 r a1 a2 l v a5 a6 a7) S=_;rw [zh f3,zh f4,zh f6];have it:xb (zbj (zc 5)) (G8 r a1 a2 l v (some (.loc S.length)) (some (.int (nst r e))) a7) (S++[(wk r d 103 v).map rD])=.ok ((wk r d 103 v).reverse.map rD,[]) (S++[(wk r d 103 v).map rD]):=by
   refine ve ?_;rw [zeU,vr (d:=.loc S.length) rfl,Rb];simp [Dd.listOf]
  rw [xJ,kQ,it,Rb];exact lp
 ·rw [ht];exact .head _
 ·rw [ht,_ar,z49,z9N (fun z=>?_),z9D t.reverse d (fun w hw=>by have:=low w hw;omega)];rw [z9M t.reverse d (fun w=>by have:=low v w;omega)];exact new z
abbrev H8(r:Rl)(n b:Nat)(s:Sto)(a4 a5 a6 a7:Option D):Ev:=F8 (some (.str (nmR r))) (some (.int n)) (some (.int b)) (some (.dlo s.length)) a4 a5 a6 a7
theorem z1T {n b:Nat} (r:Rl) (hn:Sz n) (hb:b<=30) (hb2:(b+1) ^ n<=90000) {M:Nat} (hM:∀ v,Lt n b v->nst r v<=M) (s:Sto):∃ d S',yN [.str (nmR r),.int n,.int b] s=.ok (.dlo s.length) S'/\Dk n b d/\Ok r d/\S'[s.length]? = some (encD d)/\(∀ v,Lt n b v->(va d (K v)).isSome=true)/\flt r M d=(every n b).filter (fun w=>decide (nst r w=M))/\∀ j,j<s.length->S'[j]? = s[j]? := by
 have tb:=zcO (n:=n) (m:=b) (by unfold Sz at hn;omega) hb hb2 (s++[Dd.encD []]);have ndE:(every n b).Nodup:=(z78 n b).nodup.drop;obtain ⟨Z',S',lp,b4,b5,b6,b7,d,hZ,h1,h2,h3,h5,h6,h7,h8⟩:=jk (all:=(every n b).map rD) (body:=zhW) (fun i Z S'=>∃ b4 b5 b6 b7 d,Z=H8 r n b s b4 b5 b6 b7/\Dk n b d/\Ok r d/\S'[s.length]? = some (encD d)/\(∀ v∈(every n b).take i,(va d (K v)).isSome=true)/\flt r M d=((every n b).take i).filter (fun w=>decide (nst r w=M))/\s.length<S'.length/\∀ j,j<s.length->S'[j]? = s[j]?) ((every n b).map rD) 0 (by
  intro i x hx Z S1 ⟨b4,b5,b6,b7,d,hZ,h1,h2,h3,h5,h6,h7,h8⟩;subst hZ;rw [_W] at h5 h6 ⊢;rw [_P,_v] at hx;obtain ⟨v,hv,rfl⟩:=hx;have ts:(every n b).take (i+1)=(every n b).take i++[v]:=by rw [_cX,hv];rfl
  have hvL:=(wR hn).mp (_A hv);have notin:v∉(every n b).take i:=fun z=>by
   have nd:((every n b).take (i+1)).Nodup:=(_cK (i+1) (every n b)).nodup ndE;rw [ts,_cO] at nd;exact nd.2.2 v z v (by simp) rfl
  obtain ⟨c5,c6,c7,d',S',e,k1,k2,k3,k4,k5,k6,k7,k8⟩:=zap (r:=r) hn hb hb2 hvL (hM v hvL) h1 h2 h3 (fun z=>by cases q:va d (K v) with
   | none=>rfl | some u=>
    refine absurd ?_ notin;have:v∈flt r M d:=by
     unfold flt;rw [_bj];refine ⟨?_,by simpa using z⟩;rw [_aK];exact _F.mpr ⟨_,z3T q,z57 v⟩
    rw [h6] at this;exact (_bj.mp this).1) (some (.int n)) (some (.int b)) b4 b5 b6 b7;refine ⟨_,S',e,_,_,_,_,d',rfl,k1,k2,k3,fun w hw=>?_,?_,by omega,fun j hj=>by rw [k8 j (by omega) (by omega),h8 j hj]⟩
  ·rw [ts] at hw;rcases _V.mp hw with hw | hw;·exact k4 _ (h5 w hw)
   ·rw [_Z.mp hw];exact k5
  ·rw [k6,h6,ts,_cB];by_cases z:nst r v=M;·simp [z]
   ·simp [z]) (H8 r n b s none none none none) (s++[Dd.encD []]) ⟨_,_,_,_,[],rfl,⟨List.Pairwise.nil,by simp⟩,fun p hp=>by simp at hp,by simp,by simp,by simp [flt],by simp,fun j hj=>by rw [_o hj]⟩;rw [_W,_B,_dk] at h5 h6;refine ⟨d,S',?_,h1,h2,h3,fun v hv=>h5 v ((wR hn).mpr hv),h6,h8⟩;have f1:xH (F8 (some (.str (nmR r))) (some (.int n)) (some (.int b)) none none none none none) s=.ok (.nx (H8 r n b s none none none none)) (s++[Dd.encD []]):=rfl;have it:xb (eSl (zg zX (za (zc 1) (za (eC (.int 0)) (za (zc 2) zi)))) (qe (eC (.int 1))) yV) (H8 r n b s none none none none) (s++[Dd.encD []])=.ok ((every n b).map rD,[]) (s++[Dd.encD []]):=by
  refine ve ?_;have sl:dSl (.lst ((wY n b).map rD)) (some ((1:Nat):Int)) none (s++[Dd.encD []])=.ok (.lst ((every n b).map rD)) (s++[Dd.encD []]):=by
   have e:=z4M ((wY n b).map rD) 1 (s++[Dd.encD []]);have e2:Dd.cutD ((wY n b).map rD) (some ((1:Nat):Int)) none=((wY n b).map rD).drop 1:=by simpa [dSl] using e
   simp only [dSl,Dd.listOf,e2];rw [every,_b8]
  generalize (wY n b).map rD=A at *;generalize (every n b).map rD=B at *;rw [zbM,z33 (x:=.int n) (y:=.int 0) (z:=.int b) (vr rfl) rfl (vr rfl),tb,Rb];simp only [z2b,z1u,qJ,Rb];exact sl
 have f2:yC (H8 r n b s none none none none) (s++[Dd.encD []])=.ok (.nx Z') S':=by
  rw [yC,kQ,it,Rb];exact lp
 rw [hZ] at f2;have key:∀ (dr dn db:D) (b4 b5 b6 b7:Option D),xH (F8 (some dr) (some dn) (some db) none none none none none) s=.ok (.nx (F8 (some dr) (some dn) (some db) (some (.dlo s.length)) none none none none)) (s++[Dd.encD []])->yC (F8 (some dr) (some dn) (some db) (some (.dlo s.length)) none none none none) (s++[Dd.encD []])=.ok (.nx (F8 (some dr) (some dn) (some db) (some (.dlo s.length)) b4 b5 b6 b7)) S'->yN [dr,dn,db] s=.ok (.dlo s.length) S':=fun dr dn db b4 b5 b6 b7 k1 k2=>by
  have st:zt ["rule","size","most","steps","lot","path","many","behind"] [dr,dn,db]=F8 (some dr) (some dn) (some db) none none none none none:=rfl;simp only [yN,Mof,qO,st,_i,_u,_H];rw [zh k1,zh k2];rfl
 exact key _ _ _ _ _ _ _ f1 f2
def mx(r:Rl)(n b:Nat):Int:=maxL ((every n b).map fun v=>(nst r v:Int))
def bst(r:Rl)(n b:Nat):List (List Int):=(every n b).filter fun w=>decide (nst r w=(mx r n b).toNat)
theorem z7W{n b:Nat}(hn:Sz n)(hb:1<=b):every n b≠[]:=fun h=>by
 have:List.replicate n (1:Int)∈every n b:=(wR hn).mpr ⟨⟨hn,by simp,fun x hx=>by rw [_av hx];omega,1,by rw [List.mem_replicate];unfold Sz at hn;omega,by omega⟩,fun x hx=>by rw [_av hx];omega⟩;rw [h] at this;cases this
theorem zeG{n b:Nat}(r:Rl)(hn:Sz n)(hb:1<=b):∃ v,Lt n b v/\mx r n b=(nst r v:Int):=by
 have:=maxL_mem (xs:=(every n b).map fun v=>(nst r v:Int)) (by simpa using z7W hn hb);obtain ⟨v,hv,e⟩:=_F.mp this;exact ⟨v,(wR hn).mp hv,e.symm⟩
theorem zhh{n b:Nat}{r:Rl}(hn:Sz n){v:List Int}(h:Lt n b v):(nst r v:Int)<=mx r n b:=maxL_ge _ (_F.mpr ⟨v,(wR hn).mpr h,rfl⟩)
theorem zee{n b:Nat}{r:Rl}(hn:Sz n)(hb:1<=b):(((mx r n b).toNat:Nat):Int)=mx r n b:=by
 obtain ⟨v,_,e⟩:=zeG r hn hb;omega
theorem zbN{n b:Nat}{r:Rl}(hn:Sz n){v:List Int}:v∈bst r n b ↔ Lt n b v/\nst r v=(mx r n b).toNat:=by
 unfold bst;rw [_bj,wR hn];simp
theorem zhM(r:Rl)(n b:Nat):Up (bst r n b):=((z78 n b).drop).filter _
theorem zb1{n b:Nat}{r:Rl}:∀ {d:Kv},(∀ p∈d,∃ v,Lt n b v/\p.1=K v/\∃ z:Nat,p.2=.int ((z:Nat):Int))->Ok r d->z2L d=some (d.map fun p=>((nst r (unK p.1):Nat):Int))
 | [],_,_=>rfl | (k,u)::d,h,ok=>by
  obtain ⟨v,hv,e,_⟩:=h (k,u) (.head _);have eu:=ok (k,u) (.head _) v e;simp only at e eu;subst e eu;simp only [z2L,zb1 (d:=d) (fun p hp=>h p (.tail _ hp)) (fun p hp=>ok p (.tail _ hp)),_S,_s,z57]
theorem zfj{α:Type}{fi:FI}{mp:List (Option Nat)}{fg:FG}{ft:FT}{fe:FE}{Z:Ev}{s s1:Sto}(g f:α->D)(p:α->Bool)(ev:α->Ev)(l:List α) (hi:fi Z s=.ok (l.map g,[]) s1)(hg:∀ a∈l,fg (g a) (zU mp Z) s1=.ok (ev a) s1)(ht:∀ a∈l,ft (ev a) s1=.ok (p a) s1)(he:∀ a∈l,p a=true->fe (ev a) s1=.ok (f a) s1)(hl:l.length<=cap): zD fi mp fg ft fe Z s=.ok (.lst ((l.filter p).map f)) s1:=by
 rw [kO,z0p,hi,Rb];rw [uu g f p l [] (by
  intro a ha;simp only [hg a ha,ht a ha,Rb];cases hp:p a with
  | true=>simp [he a ha hp] | false=>simp) (by simpa using hl)];rfl
theorem zdO{M:Mir}{f:FE}{Z:Ev}{s s1:Sto}{x:D}(h:f Z s=.ok x s1):zg M (za f zi) Z s=M [x] s1:=by simp only [wE,zu,zF,h,Rb]
abbrev W5(a0 a1 a2 a3 a4:Option D):Ev:=[a0,a1,a2,a3,a4]
theorem zei {n b:Nat} (hn:Sz n) (r:Rl) (hb1:1<=b) (hb:b<=8) (s:Sto):∃ j S',vT [.str (nmR r),.int n,.int b] s=.ok (.tup [.int (mx r n b),.loc j]) S'/\S'[j]? = some ((bst r n b).map rD)/\s.length<=j/\∀ k,k<s.length->S'[k]? = s[k]? := by
 have n2:2<=n:=by unfold Sz at hn;omega
 have n4:n<=4:=by unfold Sz at hn;omega
 have hb2:(b+1) ^ n<=6561:=by
  have h1:(b+1) ^ n<=9 ^ n:=_cm (by omega) n;have h2:9 ^ n<=9 ^ 4:=_af (by decide) n4;have h3:(9:Nat) ^ 4=6561:=by decide
  omega
 have w1:=uU r s;have w2:=Pt.z2a (b:=4) n2 n4 s;have w3:=z98 (x:=(b:Int)) (a:=1) (b:=8) (by omega) (by omega) s;obtain ⟨d,S',e,dk,ok,hl,all,fl,fr⟩:=z1T r hn (b:=b) (by omega) (by omega) (M:=(mx r n b).toNat) (fun v hv=>by have:=zhh (r:=r) hn hv;omega) s;have dl:d.length<=6561:=by have:=dk.len hn;omega
 have lS:s.length<S'.length:=(_b.mp hl).1;have hF:(S'.set s.length (.non::Dd.encD d))[s.length]? = some (.non::Dd.encD d):=_O lS;have keys:∀ v∈d.map (fun p=>unK p.1),Lt n b v/\va d (K v)=some (.int (nst r v)):=fun v hv=>by
  obtain ⟨p,hp,rfl⟩:=_F.mp hv;obtain ⟨w,hw,e1,_⟩:=dk.key p hp;obtain ⟨u,hu⟩:=zbh hp;rw [e1] at hu;simp only [e1,z57];exact ⟨hw,by rw [hu,ok.val hu]⟩
 have kD:z3L d=(d.map fun p=>unK p.1).map rD:=by
  rw [z3L,_aK];refine _bc fun p hp=>?_;obtain ⟨w,hw,e1,_⟩:=dk.key p hp;simp only [Function.comp,e1,z57];exact zdo w
 have mem:∀ v,Lt n b v->v∈d.map (fun p=>unK p.1):=fun v hv=>by
  obtain ⟨u,hu⟩:=_ai.mp (all v hv);exact _F.mpr ⟨_,z3T hu,z57 v⟩
 have ll:(d.map fun p=>unK p.1).length<=6561:=by simpa using dl
 have decd:zc3 (Dd.encD d)=some d:=z3R dk.all;have vals:=zb1 (r:=r) dk.key ok;have vals2:z2L d=some ((d.map fun p=>unK p.1).map fun v=>(nst r v:Int)):=by rw [vals,_aK];rfl
 have fl2:(d.map fun p=>unK p.1).filter (fun w=>decide (nst r w=(mx r n b).toNat))=bst r n b:=by
  rw [bst,<- fl,flt,_aK];rfl
 generalize hL:(d.map fun p=>unK p.1)=L at *;have neL:L≠[]:=fun z=>by
  obtain ⟨v,hv,_⟩:=zeG r hn hb1;have:=mem v hv;rw [z] at this;cases this
 have mxL:maxL (L.map fun v=>(nst r v:Int))=mx r n b:=by
  refine _ch ?_ ?_
  ·obtain ⟨v,hv,e⟩:=_F.mp (maxL_mem (xs:=L.map fun v=>(nst r v:Int)) (by simpa using neL));rw [<- e];exact zhh hn (keys v hv).1
  ·obtain ⟨v,hv,e⟩:=zeG r hn hb1;rw [e];exact maxL_ge _ (_F.mpr ⟨v,mem v hv,rfl⟩)
 have f5:∀ a0 a1 a2,wK (W5 a0 a1 a2 (some (.dlo s.length)) none) S'=.ok (.nx (W5 a0 a1 a2 (some (.dlo s.length)) (some (.int (mx r n b))))) S':=fun a0 a1 a2=>by cases hc:L.map (fun v=>(nst r v:Int)) with
  | nil=>exact absurd (List.map_eq_nil_iff.mp hc) neL | cons z zs=>
   rw [hc] at vals2 mxL;rw [wK,zK,zeP,vr (d:=.dlo s.length) rfl,Rb];simp only [hl,_J,decd,vals2,mxL];rfl
 have dg:∀ v∈L,qF (S'.set s.length (.non::Dd.encD d)) (.dlo s.length) (rD v)=some (some (.int (nst r v))):=fun v hv=>by rw [ziB dk hF,(keys v hv).2]
 have it:∀ Z:Ev,Z[3]? = some (some (.dlo s.length))->z7G (zc 3) Z S'=.ok (L.map rD,[]) (S'.set s.length (.non::Dd.encD d)):=fun Z hZ=>by
  rw [zfl,vr hZ,Rb];simp only [hl,_J,decd];rw [kD]
 have frT:∀ k,k<s.length->(S'.set s.length (.non::Dd.encD d))[k]? = s[k]? := fun k hk=>by rw [_C (by omega),fr k hk]
 have lT:s.length<(S'.set s.length (.non::Dd.encD d)).length:=by rw [_bC];exact lS
 generalize S'.set s.length (.non::Dd.encD d)=T at *;have mn:=zee (r:=r) hn hb1;generalize hm:mx r n b=m at *;have c:∀ a0 a1 a2,zD (z7G (zc 3)) [some 4,some 3,none] (wo 2) (tOf (eOp dEq (z9u (zc 1) (zc 2)) (zc 0))) (zc 2) (W5 a0 a1 a2 (some (.dlo s.length)) (some (.int m))) S'=.ok (.lst ((bst r n b).map rD)) T:=fun a0 a1 a2=>by
  rw [<- fl2];exact zfj (s:=S') (s1:=T) (Z:=W5 a0 a1 a2 (some (.dlo s.length)) (some (.int m))) (fi:=z7G (zc 3)) (mp:=[some 4,some 3,none]) (fg:=wo 2) (ft:=tOf (eOp dEq (z9u (zc 1) (zc 2)) (zc 0))) (fe:=zc 2) rD rD (fun v=>decide (nst r v=m.toNat)) (fun v=>[some (.int m),some (.dlo s.length),some (rD v)]) L (it _ rfl) (fun v _=>rfl) (fun v hv=>z2X (by rw [op2 (x:=.int (nst r v)) (y:=.int m) (by rw [zfM,vr (d:=.dlo s.length) rfl,Rb,vr (d:=rD v) rfl,Rb,dg v hv];rfl) (vr rfl),z7e,show decide ((nst r v:Int)=m)=decide (nst r v=m.toNat) from decide_eq_decide.mpr (by omega)])) (fun v hv _=>vr rfl) (by unfold cap;omega)
 have fB:=kh (bst r n b);have gs:z0h [.lst ((bst r n b).map rD)] T=.ok (.loc T.length) (T++[(bst r n b).map rD]):=zbs (zhM r n b) (fun v hv=>((zbN hn).mp hv).1.lot.ne) fB;generalize (bst r n b).map rD=B at *;have key:∀ (dr dn ds:D),yz [dr] s=.ok .non s->vp [dn,.int 4] s=.ok .non s->wc [ds,.int 1,.int 8] s=.ok .non s->yN [dr,dn,ds] s=.ok (.dlo s.length) S'->vT [dr,dn,ds] s=.ok (.tup [.int m,.loc T.length]) (T++[B]):=fun dr dn ds h1 h2 h3 h4=>by
  have st:zt ["rule","size","number","steps","most"] [dr,dn,ds]=W5 (some dr) (some dn) (some ds) none none:=rfl;simp only [vT,Mof,ky,st,_i,_u,_H];rw [zh (Z':=W5 (some dr) (some dn) (some ds) none none) (s':=s) (by rw [jv,wD,ur (x:=dr) (vr rfl),h1];rfl)];rw [zh (Z':=W5 (some dr) (some dn) (some ds) none none) (s':=s) (by rw [ju,wD,call2 (x:=dn) (y:=.int 4) (vr rfl) rfl,h2];rfl)];rw [zh (Z':=W5 (some dr) (some dn) (some ds) none none) (s':=s) (by rw [jr,wD,z33 (x:=ds) (y:=.int 1) (z:=.int 8) (vr rfl) rfl rfl,h3];rfl)];rw [zh (Z':=W5 (some dr) (some dn) (some ds) (some (.dlo s.length)) none) (s':=S') (by rw [jy,zK,z33 (x:=dr) (y:=dn) (z:=ds) (vr rfl) (vr rfl) (vr rfl),h4];rfl)];rw [zh (f5 _ _ _),ua,xT,vJ,zu,vr (d:=.int m) rfl,Rb,zu,zdO (c _ _ _),gs,Rb,zF];simp [cap]
 exact ⟨T.length,T++[B],key _ _ _ w1 w2 w3 e,by simp,by omega,fun k hk=>by rw [_o (by omega),frT k hk]⟩
theorem z2Z:LeM wc zM:=LeM.mof (LeS.if_ LeS.fNo LeS.rfl)
theorem z0y:LeM vp zY:=LeM.mof (LeS.if_ LeS.fNo LeS.rfl)
theorem z1I:LeM yN wM:=LeM.mof (LeS.seq LeS.calm (LeS.seq LeS.calm LeS.calm))
theorem zbE:LeM vT zO:=LeM.mof (LeS.seq (LeS.drop (LeE.call qK)) (LeS.seq (LeS.drop (LeE.call z0y)) (LeS.seq (LeS.drop (LeE.call z2Z)) (LeS.seq (LeS.set (LeE.call z1I)) (LeS.seq LeS.calm LeS.calm)))))
end Pt
namespace Po
open L2 Dd Pm Pg Pn
theorem zig{n:Nat}{v:List Int}(r:Rl)(h:LotB n 104 v):∃ ls,Run r v ls/\ls.length<=50000:=by
 obtain ⟨ls,Rn,ll⟩:=zep (r:=r) (20*104+3) v h.toLot (zgN (r:=r) h.toLot h.toN);exact ⟨ls,Rn,by omega⟩
end Po
namespace K32
open L2 Dd Pm Pg Pn Po Pr Pp Pt
theorem z4Q{α:Type}{G:List (Nat×List D)}{all:List D}{s:Sto}{body:D->Sto->R (Option D)}(og:okG G all s)(g f:α->D)(p:α->Bool):∀ (l:List α)(acc:List D),(∀ a∈l,body (g a) s=.ok (if p a=true then some (f a) else none) s)->acc.length+l.length<=cap->wm G all body (l.map g) acc s=.ok (acc++(l.filter p).map f) s
 | [],acc,_,_=>by simp [wm,og] | x::xs,acc,hb,hl=>by
  rw [_s,wm,_f og,hb x (by simp)];cases hp:p x with
  | true=>
   have ih:=z4Q (all:=all) og g f p xs (acc++[f x]) (fun y hy=>hb y (by simp [hy])) (by simp at hl ⊢;omega);have hc:acc.length<cap:=by simp at hl;omega
   simp [hc,ih,hp] | false=>
   have ih:=z4Q (all:=all) og g f p xs acc (fun y hy=>hb y (by simp [hy])) (by simp at hl ⊢;omega);simp [ih,hp]
theorem zbD{α:Type}{G:List (Nat×List D)}{fi:FI}{mp:List (Option Nat)}{fg:FG}{ft:FT}{fe:FE}{Z:Ev}{s:Sto}(g f:α->D)(p:α->Bool)(ev:α->Ev)(l:List α) (hi:fi Z s=.ok (l.map g,G) s)(og:okG G (l.map g) s)(hg:∀ a∈l,fg (g a) (zU mp Z) s=.ok (ev a) s)(ht:∀ a∈l,ft (ev a) s=.ok (p a) s)(he:∀ a∈l,p a=true->fe (ev a) s=.ok (f a) s)(hl:l.length<=cap): zD fi mp fg ft fe Z s=.ok (.lst ((l.filter p).map f)) s:=by
 rw [kO,z0p,hi,Rb];rw [z4Q og g f p l [] (by
  intro a ha;simp only [hg a ha,ht a ha,Rb];cases hp:p a with
  | true=>simp [he a ha hp] | false=>simp) (by simpa using hl)];rfl
theorem z8C{α:Type}{all:List D}{body:D->Sto->R (Option D)}(I:Sto->Prop)(g f:α->D):∀ (l:List α)(acc:List D)(s:Sto),I s->(∀ a∈l,∀ s,I s->∃ s',body (g a) s=.ok (some (f a)) s'/\I s')->acc.length+l.length<=cap->∃ s',wm [] all body (l.map g) acc s=.ok (acc++l.map f) s'/\I s'
 | [],acc,s,hI,_,_=>⟨s,by simp [wm,okG],hI⟩ | x::xs,acc,s,hI,hb,hl=>by
  have og:okG [] all s:=by intro p hp;simp at hp
  obtain ⟨s1,e1,I1⟩:=hb x (.head _) s hI;have hc:acc.length<cap:=by simp at hl;omega
  obtain ⟨s2,e2,I2⟩:=z8C (all:=all) I g f xs (acc++[f x]) s1 I1 (fun a ha=>hb a (.tail _ ha)) (by simp at hl ⊢;omega);refine ⟨s2,?_,I2⟩;rw [_s,wm,_f og,e1,Rb];simp only [_f hc,e2];simp
theorem zf6 {α:Type} (I:Sto->Prop) {fi:FI} {mp:List (Option Nat)} {fg:FG} {fe:FE} {Z:Ev} {s:Sto} (g f:α->D) (ev:α->Ev) (l:List α) (hi:fi Z s=.ok (l.map g,[]) s) (hI:I s) (hg:∀ a∈l,∀ s,fg (g a) (zU mp Z) s=.ok (ev a) s) (he:∀ a∈l,∀ s,I s->∃ s',fe (ev a) s=.ok (f a) s'/\I s') (hl:l.length<=cap): ∃ s',zD fi mp fg qj fe Z s=.ok (.lst (l.map f)) s'/\I s':=by
 obtain ⟨s',e,I'⟩:=z8C (all:=l.map g) (body:=fun d s=>(fg d (zU mp Z) s).bind fun Z' s'=>(qj Z' s').bind fun b s2=>if b=true then (fe Z' s2).bind fun d s3=>.ok (some d) s3 else .ok none s2) I g f l [] s hI (fun a ha s hs=>by
  obtain ⟨s',e,I'⟩:=he a ha s hs;refine ⟨s',?_,I'⟩;simp only [hg a ha,Rb];show (R.ok true s).bind _=_;simp [e]) (by simpa using hl);refine ⟨s',?_,I'⟩;rw [kO,z0p,hi,Rb,e];rfl
theorem zbX{G:List (Nat×List D)}{all:List D}{body:D->Ev->Sto->R Fl}(I:Nat->Ev->Sto->Prop)(og:∀ k Z s,I k Z s->okG G all s):∀ (xs:List D)(k:Nat),(∀ j x,xs[j]? = some x->∀ Z s,I (k+j) Z s->∃ Z' s',body x Z s=.ok (.nx Z') s'/\I (k+j+1) Z' s')-> ∀ Z s,I k Z s->∃ Z' s',wU G all body xs Z s=.ok (.nx Z') s'/\I (k+xs.length) Z' s'
 | [],k,_,Z,s,h=>⟨Z,s,by simp [wU,og k Z s h],h⟩ | x::xs,k,hb,Z,s,h=>by
  obtain ⟨Z1,s1,e1,h1⟩:=hb 0 x (by simp) Z s h;obtain ⟨Z2,s2,e2,h2⟩:=zbX (all:=all) I og xs (k+1) (fun j y hy Z s hi=>by
   have e:k+1+j=k+(j+1):=by omega
   rw [e] at hi ⊢;exact hb (j+1) y (by simpa using hy) Z s hi) Z1 s1 h1;refine ⟨Z2,s2,by rw [wU,_f (og k Z s h),e1,Rb];exact e2,?_⟩;have e:k+(x::xs).length=k+1+xs.length:=by simp;omega
  rw [e];exact h2
abbrev E6(a0 a1 a2 a3 a4 a5:Option D):Ev:=[a0,a1,a2,a3,a4,a5]
theorem zhS {n m:Nat} {a:List Int} (ha:a.length<=4) (hm:m<=30) {acc:List (List Int)} (hl:acc.length+(m+1)<=2401) (S:Sto) (a0 a2 a3:Option D): wJ (E6 a0 (some (.int m)) a2 a3 (some (.loc S.length)) (some (rD a))) (S++[acc.map rD])=.ok (.nx (E6 a0 (some (.int m)) a2 a3 (some (.loc S.length)) (some (rD a)))) (S++[(acc++(Pt.rngI m).map fun g=>a++[g]).map rD]):=by
 have c:=comp_map (s:=S++[acc.map rD]) (Z:=E6 a0 (some (.int m)) a2 a3 (some (.loc S.length)) (some (rD a))) (fi:=z0x (za (eOp qr (zc 1) (eC (.int 1))) zi)) (mp:=[some 5,none]) (fg:=wo 1) (fe:=eOp qr (zc 0) (qq (za (zc 1) zi))) (fun k:Nat=>D.int ((k:Nat):Int)) (fun k=>rD (a++[((k:Nat):Int)])) (fun k=>[some (rD a),some (.int ((k:Nat):Int))]) (List.range (m+1)) (vY (n:=m+1) (by omega) (by rw [zu,op2 (x:=.int m) (y:=.int 1) (vr rfl) rfl,z5w,Rb,zF];simp)) (fun k _=>rfl) (fun k _=>by
   rw [op2 (x:=rD a) (y:=rD [(k:Int)]) (vr rfl) (by
    rw [vJ,zu,vr (d:=.int ((k:Nat):Int)) rfl,Rb,zF];simp [cap]),z5B,_f (by simp [cap];omega)];simp) (by simp [cap];omega);have ec:(List.range (m+1)).map (fun k:Nat=>rD (a++[((k:Nat):Int)]))=((Pt.rngI m).map fun g=>a++[g]).map rD:=by simp [Pt.rngI,_aO]
 have ln:((Pt.rngI m).map fun g=>a++[g]).length=m+1:=by simp [Pt.rngI]
 have fl:=kh ((Pt.rngI m).map fun g=>a++[g]);rw [ec] at c;rw [_ci];have ln2:(((Pt.rngI m).map fun g=>a++[g]).map rD).length=m+1:=by simpa using ln
 have ln3:(acc.map rD).length=acc.length:=by simp
 generalize ((Pt.rngI m).map fun g=>a++[g]).map rD=Yy at *;generalize acc.map rD=X at *;generalize rD a=d at *;rw [wJ,wD,zj2,vr (d:=.loc S.length) rfl,Rb];simp only;rw [c,Rb];simp only;have gt:(S++[X])[S.length]? = some X:=by simp
 rw [gt];simp only;rw [_f ⟨fl,by simp [cap];omega⟩,zah];rfl
abbrev E2(n m:Nat)(a2 a3 a4 a5:Option D):Ev:=E6 (some (.int n)) (some (.int m)) a2 a3 a4 a5
theorem zeV {n m:Nat} (hm:m<=30) (hpw:(m+1) ^ n<=2401) (hn:Sz n) (s:Sto):xQ [.int n,.int m] s=.ok (.lst ((every n m).map rD)) s:=by
 have flE:(D.lst ((every n m).map rD)).flat=true:=by
  have:=kh (every n m);generalize (every n m).map rD=X at this;exact this
 have st:zt ["_law_size","_law_number","_law_rows","_law_place","_law_longer","_law_row"] [.int n,.int m]=E2 n m none none none none:=rfl;have f1:vX (E2 n m none none none none) s=.ok (.nx (E2 n m (some (.lst [rD []])) none none none)) s:=by
  rw [vX,zK,z29,zu,vJ,zF];simp [cap]
 obtain ⟨Z',S',lp,fd,a3,a4,a5,hZ,h1,h2,h3⟩:=jk (all:=(List.range n).map fun k:Nat=>D.int ((k:Nat):Int)) (body:=fun x Z s=>(wo 3 x Z s).bind fun Z' s'=>(zn xw (zn xB uf)) Z' s') (fun i Z S'=>∃ fd a3 a4 a5,Z=E2 n m (some fd) a3 a4 a5/\S'.take s.length=s/\s.length<=S'.length/\((i=0/\fd=.lst [rD []])\/∃ j,fd=.loc j/\j<S'.length/\S'[j]? = some ((wY i m).map rD))) ((List.range n).map fun k:Nat=>D.int ((k:Nat):Int)) 0 (by
   intro i x hx Z S1 ⟨fd,a3,a4,a5,hZ,h1,h2,h3⟩;subst hZ;rw [_W] at h3 ⊢;have hi:i<n:=by have:=(_b.mp hx).1;simpa using this
   have g3:xw (E2 n m (some fd) (some x) a4 a5) S1=.ok (.nx (E2 n m (some fd) (some x) (some (.loc S1.length)) a5)) (S1++[(z3k [] (Pt.rngI m)).map rD]):=by
    rw [xw,zK,z3F,zF,Rb,_f ⟨by simp,rfl⟩];rfl
   obtain ⟨GG,hI,hG⟩:∃ GG,(∀ (T:Sto) (Z:Ev),Z[2]? = some (some fd)->xb (zc 2) Z (S1++T)=.ok ((wY i m).map rD,GG) (S1++T))/\∀ T:Sto,okG GG ((wY i m).map rD) (S1++T):=by
    rcases h3 with ⟨rfl,rfl⟩ | ⟨j,rfl,hj,gj⟩;·exact ⟨[],fun T Z hZ=>ve (by rw [vr hZ];rfl),fun T p hp=>by simp at hp⟩
    ·have gT:∀ T:Sto,(S1++T)[j]? = some ((wY i m).map rD):=fun T=>by rw [_o hj];exact gj
     refine ⟨[(j,(wY i m).map rD)],fun T Z hZ=>?_,fun T p hp=>?_⟩
     ·rw [zad,vr hZ,Rb];simp only [gT]
     ·simp only [_Z] at hp;subst hp;exact gT T
   have al:=kf (n:=i) (m:=m);have gl:∀ L:List (List Int),(z3k L (Pt.rngI m)).length=L.length*(m+1):=fun L=>by
    unfold z3k;rw [List.length_flatMap];simp [Pt.rngI];induction L with
    | nil=>simp | cons a l ih=>simp [ih,Nat.add_mul,Nat.add_comm]
   have tot:(wY i m).length*(m+1)<=2401:=by
    have h5:(m+1) ^ i*(m+1)<=(m+1) ^ n:=by rw [<- _ds];exact _af (by omega) (by omega)
    have:=_cb (m+1) al;have:=hpw;omega
   obtain ⟨Z2,S2,lp2,b5,hZ2,hS2⟩:=zbX (G:=GG) (all:=(wY i m).map rD) (body:=fun x Z s=>(wo 5 x Z s).bind fun Z' s'=>wJ Z' s') (fun k Z S2=>∃ b5,Z=E2 n m (some fd) (some x) (some (.loc S1.length)) b5/\S2=S1++[(z3k ((wY i m).take k) (Pt.rngI m)).map rD]) (fun k Z S2 hk=>by
    obtain ⟨b5,_,rfl⟩:=hk;exact hG _) ((wY i m).map rD) 0 (by
    intro k y hy Z S2 ⟨b5,hZ,hS⟩;subst hZ hS;rw [_W];rw [_P,_v] at hy;obtain ⟨a,ha,rfl⟩:=hy;have hk:k<(wY i m).length:=(_b.mp ha).1;have la:=(jf.mp (_A ha)).1;have ts:(wY i m).take (k+1)=(wY i m).take k++[a]:=by rw [_cX,ha];rfl
    have eg:z3k ((wY i m).take (k+1)) (Pt.rngI m)=z3k ((wY i m).take k) (Pt.rngI m)++(Pt.rngI m).map fun g=>a++[g]:=by rw [ts];simp [z3k]
    have lk:(z3k ((wY i m).take k) (Pt.rngI m)).length+(m+1)<=2401:=by
     rw [gl,_bY,Nat.min_eq_left (by omega),<- Nat.succ_mul];exact _U (_cb _ hk) tot
    have t:=zhS (n:=n) (a:=a) (by have:=hn;unfold Sz at this;omega) hm lk S1 (some (.int n)) (some fd) (some x);rw [<- eg] at t;refine ⟨E2 n m (some fd) (some x) (some (.loc S1.length)) (some (rD a)),S1++[(z3k ((wY i m).take (k+1)) (Pt.rngI m)).map rD],?_,some (rD a),rfl,rfl⟩;rw [z6m,Rb];exact t) (E2 n m (some fd) (some x) (some (.loc S1.length)) a5) (S1++[(z3k [] (Pt.rngI m)).map rD]) ⟨_,rfl,by simp⟩;rw [_W,_B,_dk,<- z2F] at hS2;refine ⟨E2 n m (some (.loc S1.length)) (some x) (some (.loc S1.length)) b5,S2,?_,_,_,_,_,rfl,?_,?_,.inr ⟨S1.length,rfl,by rw [hS2];simp,by rw [hS2];simp⟩⟩
   ·have g4:xB (E2 n m (some fd) (some x) (some (.loc S1.length)) a5) (S1++[(z3k [] (Pt.rngI m)).map rD])=.ok (.nx Z2) S2:=by
     rw [xB,kQ,hI _ _ rfl,Rb];exact lp2
    show (zn xw (zn xB uf)) (E2 n m (some fd) (some x) a4 a5) S1=_;rw [zh g3,zh g4,hZ2];rfl
   ·rw [hS2,List.take_append_of_le_length h2,h1]
   ·rw [hS2];simp;omega) (E2 n m (some (.lst [rD []])) none none none) s ⟨_,_,_,_,rfl,by simp,by omega,.inl ⟨rfl,rfl⟩⟩;rw [_W,_B,_cW] at h3;have n1:n≠0:=by unfold Sz at hn;omega
 obtain ⟨j,rfl,hj,gj⟩:=h3.resolve_left fun z=>n1 z.1;have cl:(wY n m).length<=cap:=by have:=kf (n:=n) (m:=m);unfold cap;omega
 have fE:(wY n m).filter (fun v=>decide (maxL v > 0))=every n m:=by
  obtain ⟨t,e⟩:=z2u m n;have et:every n m=t:=by unfold every;rw [e];rfl
  rw [et,e,_b5,_q]
  ·refine _bv.mpr fun v hv=>?_;obtain ⟨x,hx,px⟩:=((wR hn).mp (et ▸ hv)).lot.pos;have:=maxL_ge x hx;simp only [_at];omega
  ·have:maxL (List.replicate n (0:Int))=0:=_av (maxL_mem (by simp;omega));simp [this]
 have f7:uc Z' S'=.ok (.rt (.lst ((every n m).map rD))) S':=by
  have c:=zbD (s:=S') (Z:=Z') (G:=[(j,(wY n m).map rD)]) (fi:=xb (zc 2)) (mp:=[none]) (fg:=wo 0) (ft:=tOf (eOp dGt (zg vE (za (zc 0) zi)) (eC (.int 0)))) (fe:=zc 0) rD rD (fun v=>decide (maxL v > 0)) (fun v=>[some (rD v)]) (wY n m) (by rw [hZ,zad,vr (d:=.loc j) rfl,Rb];simp only [gj]) (by intro p hp;simp only [_Z] at hp;subst hp;exact gj) (fun v _=>rfl) (fun v hv=>z2X (by
    have ne:v≠[]:=fun z=>by have:=(jf.mp hv).1;rw [z] at this;simp at this;omega
    rw [op2 (x:=.int (maxL v)) (y:=.int 0) (by rw [ur (x:=rD v) (vr rfl)];exact z5R S' ne) rfl,zhe])) (fun v _ _=>vr rfl) cl;rw [fE] at c;rw [uc,xT,c];rfl
 simp only [xQ,zaB,Mof,ku,st,_i,_u,_H];rw [zh f1,zh (Z':=Z') (s':=S') (by
  rw [jI,kQ,vY (n:=n) (s1:=s) (by unfold Sz at hn;omega) (by rw [zu,vr (d:=.int n) rfl,Rb,zF];rfl),Rb];exact lp),f7];have fin:∀ d:D,d.flat=true->z8L s.length (.ok d S')=.ok d s:=fun d hd=>by rw [z3s hd,h1]
 exact fin _ flE
theorem e_step:Pg.xD=Pg.xL:=by
 unfold Pg.xD Pg.xL;rfl
theorem zga:Pg.wj=Pg.xg:=rfl
theorem zk6:K32.zT=Pg.zT:=by
 unfold K32.zT Pg.zT K32.wB Pg.wB K32.xh Pg.xh K32.yy Pg.yy;rw [e_step,zga];rfl
theorem zfG{n:Nat}{r:Rl}{v:List Int}{ls:List (List Int)}(R:Run r v ls):Lot n v->ls.length=nst r v+1:=by induction R with
 | done he=>intro _;rw [z9G he];rfl | @step v ls he R ih=>intro h;rw [z7P h he,_i,ih (h.step r he)]
theorem zeQ {n b:Nat} {r:Rl} {v:List Int} (h:Lt n b v) (hb:b<=900) (s:Sto):∃ t,zg ue (za (eOp dIx (zg zT (za (zc 0) (za (zc 1) zi))) (eC (.int 1))) zi) [some (.str (nmR r)),some (rD v)] s=.ok (.int (nst r v)) (s++t):=by
 have hB:=h.B hb;have h104:LotB n 104 v:=⟨h.lot,fun x hx=>by
  have h1:=hB.bd x hx;have e:(2:Int) ^ 10<=2 ^ 104:=by decide
  omega⟩;obtain ⟨ls,Rn,hl⟩:=zig r h104;have lr:=zj1 r h104 Rn (by decide) hl s;have ll:=zfG Rn h.lot;refine ⟨[ls.map rD,(vR r ls).map tD],?_⟩;have tl:(vR r ls).length=nst r v:=by simp [vR];omega
 have g2:(s++[ls.map rD,(vR r ls).map tD])[s.length+1]? = some ((vR r ls).map tD):=z4k.2;have ix:eOp dIx (zg zT (za (zc 0) (za (zc 1) zi))) (eC (.int 1)) [some (.str (nmR r)),some (rD v)] s=.ok (.loc (s.length+1)) (s++[ls.map rD,(vR r ls).map tD]):=by
  rw [xN,call2 (x:=.str (nmR r)) (y:=rD v) (vr rfl) (vr rfl),zk6,lr,Rb,z1u,Rb];rfl
 rw [zdO ix];simp only [ue,zW,g2,_B,tl]
theorem z7f(s:Sto):yo [.exc "NoNumber"] s=.ok (.str "number") s:=by kernel_rfl
theorem zbB(s:Sto):yo [.exc "NoSize"] s=.ok (.str "size") s:=by kernel_rfl
theorem z9F(s:Sto):yo [.exc "NoRule"] s=.ok (.str "rule") s:=by kernel_rfl
theorem zaw {d e f:D} {s s':Sto} {r:D} (h:zO [d,e,f] s=.ok r s'):zI [d,e,f] s=.ok r s':=by
 have st:zt ["_law_rule","_law_size","_law_number","_law_e"] [d,e,f]=[some d,some e,some f,none]:=rfl;have h2:wl [some d,some e,some f,none] s=.ok (.rt r) s':=by rw [wl,xT,z33 (x:=d) (y:=e) (z:=f) rfl rfl rfl,h];rfl
 simp only [zI,Mof,qI,st,_i,_u,_H,uE,zi2];rw [h2]
theorem z7x {d e f:D} {s:Sto} {c x:Str} (hc:c∈rsX) (hk:yo [.exc c] s=.ok (.str x) s) (h:zO [d,e,f] s=.ex c s):zI [d,e,f] s=.ok (.str x) s:=by
 have st:zt ["_law_rule","_law_size","_law_number","_law_e"] [d,e,f]=[some d,some e,some f,none]:=rfl;have h2:wl [some d,some e,some f,none] s=.ex c s:=by rw [wl,xT,z33 (x:=d) (y:=e) (z:=f) rfl rfl rfl,h];rfl
 have e':uC ((List.replicate 4 none).set 3 (some (.exc c))) s=.ok (.rt (.str x)) s:=by rw [uC,xT,ur (x:=.exc c) (by rfl),hk];rfl
 simp only [zI,Mof,qI,st,_i,_u,_H,uE,zi2];rw [h2];simp only [_f hc,_W,Nat.reduceAdd];rw [e']
section
variable {d e f:D}{s:Sto}
theorem zge (h:yA [d] s=.ex "NoRule" s):zO [d,e,f] s=.ex "NoRule" s:=by
 have st:zt ["rule","size","number","steps","most"] [d,e,f]=W5 (some d) (some e) (some f) none none:=rfl;simp only [zO,z3E,wI,st,_i,_u,_H];rw [zaX (c:="NoRule") (s':=s) (by rw [wb];exact z7k (by rw [ur (x:=d) (vr rfl),h]))]
theorem zf5 (h0:yA [d] s=.ok .non s) (h:zY [e,.int 4] s=.ex "NoSize" s):zO [d,e,f] s=.ex "NoSize" s:=by
 have st:zt ["rule","size","number","steps","most"] [d,e,f]=W5 (some d) (some e) (some f) none none:=rfl;simp only [zO,z3E,wI,st,_i,_u,_H];rw [zh (Z':=W5 (some d) (some e) (some f) none none) (s':=s) (by rw [wb,wD,ur (x:=d) (vr rfl),h0];rfl)];rw [zaX (c:="NoSize") (s':=s) (by rw [vz];exact z7k (by rw [call2 (x:=e) (y:=.int 4) (vr rfl) rfl,h]))]
theorem zai (h0:yA [d] s=.ok .non s) (h1:zY [e,.int 4] s=.ok .non s) (h:zM [f,.int 1,.int 8] s=.ex "NoNumber" s):zO [d,e,f] s=.ex "NoNumber" s:=by
 have st:zt ["rule","size","number","steps","most"] [d,e,f]=W5 (some d) (some e) (some f) none none:=rfl;simp only [zO,z3E,wI,st,_i,_u,_H];rw [zh (Z':=W5 (some d) (some e) (some f) none none) (s':=s) (by rw [wb,wD,ur (x:=d) (vr rfl),h0];rfl)];rw [zh (Z':=W5 (some d) (some e) (some f) none none) (s':=s) (by rw [vz,wD,call2 (x:=e) (y:=.int 4) (vr rfl) rfl,h1];rfl)];rw [zaX (c:="NoNumber") (s':=s) (by rw [qu];exact z7k (by rw [z33 (x:=f) (y:=.int 1) (z:=.int 8) (vr rfl) rfl rfl,h]))]
end
theorem zds{n a b:Int}(hn:¬ (a<=n/\n<=b))(s:Sto):zM [.int n,.int a,.int b] s=.ex "NoNumber" s:=by
 have i:=jh n s;by_cases h:a<=n
 ·have hb:¬ n<=b:=fun z=>hn ⟨h,z⟩;simp [zM,z3E,wf,zt,i,h,hb]
 ·simp [zM,z3E,wf,zt,i,h]
theorem z8Z{d a b:D}(h1:(tyD d).isSome=true)(h2:isI d=false)(s:Sto):zM [d,a,b] s=.ex "NoNumber" s:=by
 have i:=jZ h1 s;rw [h2] at i;simp [zM,z3E,wf,zt,i]
theorem zbf{n b:Int}(hn:¬ (2<=n/\n<=b))(s:Sto):zY [.int n,.int b] s=.ex "NoSize" s:=by
 have i:=jh n s;by_cases h:2<=n
 ·have hb:¬ n<=b:=fun z=>hn ⟨h,z⟩;simp [zY,z3E,vd,zt,i,h,hb]
 ·simp [zY,z3E,vd,zt,i,h]
theorem zaN{d b:D}(h1:(tyD d).isSome=true)(h2:isI d=false)(s:Sto):zY [d,b] s=.ex "NoSize" s:=by
 have i:=jZ h1 s;rw [h2] at i;simp [zY,z3E,vd,zt,i]
def zgG:List D:=[.int 0,.int 9,.int (-1),.bl true,.bl false,.non,.str "2",.tup [.int 2],.int 1000000000000000000000000000000,.lst [.int 2]]
def zgI:List D:=[.int 1,.int 5,.int 0,.int (-1),.bl true,.non,.str "3",.tup [.int 3],.int 1000000000000000000000000000000,.lst [.int 3]]
theorem ziW{d:D}(h:d∈zgG)(s:Sto):zM [d,.int 1,.int 8] s=.ex "NoNumber" s:=by
 simp only [zgG,_z,_bt,or_false] at h;rcases h with rfl | rfl | rfl | rfl | rfl | rfl | rfl | rfl | rfl | rfl;·exact zds (by decide) s
 ·exact zds (by decide) s
 ·exact zds (by decide) s
 ·exact z8Z rfl rfl s
 ·exact z8Z rfl rfl s
 ·exact z8Z rfl rfl s
 ·exact z8Z rfl rfl s
 ·exact z8Z rfl rfl s
 ·exact zds (by decide) s
 ·exact z8Z rfl rfl s
theorem zi0{d:D}(h:d∈zgI)(s:Sto):zY [d,.int 4] s=.ex "NoSize" s:=by
 simp only [zgI,_z,_bt,or_false] at h;rcases h with rfl | rfl | rfl | rfl | rfl | rfl | rfl | rfl | rfl | rfl;·exact zbf (by decide) s
 ·exact zbf (by decide) s
 ·exact zbf (by decide) s
 ·exact zbf (by decide) s
 ·exact zaN rfl rfl s
 ·exact zaN rfl rfl s
 ·exact zaN rfl rfl s
 ·exact zaN rfl rfl s
 ·exact zbf (by decide) s
 ·exact zaN rfl rfl s
theorem zdC{n:Nat}(hn:Sz n)(r:Rl){d:D}(h:d∈zgG)(s:Sto):zI [.str (nmR r),.int n,d] s=.ok (.str "number") s:= z7x (by decide +kernel) (z7f s) (zai (qK.ok (uU r s)) (z0y.ok (Pt.z2a (b:=4) (by unfold Sz at hn;omega) (by unfold Sz at hn;omega) s)) (ziW h s))
theorem zh6(r:Rl){d e:D}(h:d∈zgI)(s:Sto):zI [.str (nmR r),d,e] s=.ok (.str "size") s:= z7x (by decide +kernel) (zbB s) (zf5 (qK.ok (uU r s)) (zi0 h s))
theorem zj0{w d e:D}{s:Sto}(h:xu [w] s=.ok (.bl false) s):zI [w,d,e] s=.ok (.str "rule") s:= z7x (by decide +kernel) (z9F s) (zge (z3b h))
theorem z4X {k:Nat} {ps:List (D×D)} {G:List (Nat×List D)} {s:Sto} {d e:D} (ht:(tyD d=some "list"/\tyD e=some "list")\/(tyD d=some "tuple"/\tyD e=some "tuple")) (gd:z95 s d=some (ps.map Prod.fst,G)) (ge:z95 s e=some (ps.map Prod.snd,[])) (og:∀ p∈G,s[p.1]? = some p.2) (ld:zW s d=some (ps.map Prod.fst)) (le:zW s e=some (ps.map Prod.snd)) (hl:ps.length<=cap) (h:∀ p∈ps,zA k [p.1,p.2] s=.ok (.bl true) s):zA (k+1) [d,e] s=.ok (.bl true) s:=by
 have st:zt ["_law_found","_law_due"] [d,e]=[some d,some e]:=rfl;have c:=zag (G:=G) (fi:=zgl (za (zc 0) (za (zc 1) zi))) (mp:=[none,none]) (fg:=xW 0 1) (fe:=zg (zA k) (za (zc 0) (za (zc 1) zi))) (Z:=[some d,some e]) (s:=s) (fun p:D×D=>D.tup [p.1,p.2]) (fun x=>D.bl true) (fun p=>[some p.1,some p.2]) ps (by simp [gd,ge,z3A]) og (fun a _=>by simp) (fun a ha=>by simp [h a ha]) hl;have ga:=zcH ps (fun _=>true) s;have ga:zcM [.lst (ps.map fun _=>D.bl true)] s=.ok (.bl true) s:=by rw [ga];simp
 have gl:ue [d] s=.ok (.int ps.length) s:=by simp [ue,ld]
 have gl2:ue [e] s=.ok (.int ps.length) s:=by simp [ue,le]
 have q4:uT (zA k) [some d,some e] s=.ok (.rt (.bl true)) s:=by simp only [uT,xT,ziH,xN,wE,zu,zF,c,Rb,ga,xo,_n,_m,gl,gl2,z7e,_cV]
 have q1:uI (zA k) [some d,some e] s=.ok (.rt (.bl true)) s:=by
  rw [uI,zcL];rcases ht with ⟨hd,he⟩ | ⟨hd,he⟩;all_goals
   have t:tOf (zhT "list" "tuple" (zc 1)) [some d,some e] s=.ok true s:=by simp [zhT,zib,he,isT]
   have q2:kN (zA k) [some d,some e] s=.ok (.nx [some d,some e]) s:=by simp [gIs,hd,he,isT]
   rw [t,Rb,_f rfl,zh q2,q4]
 simp only [zA,Mof,qR,st,_i,_u,_H];rw [zem q1]
theorem za3 {j:Nat} {i:Int} {F:List (List Int)} {s:Sto} (hj:s[j]? = some (F.map rD)) (hl:F.length<=cap) (h:∀ v∈F,v.length<=1000):uX [.tup [.int i,.loc j],.tup [.int i,.lst (F.map rD)]] s=.ok (.bl true) s:=by
 have fs:∀ xs:List D,(xs.map fun x=>(x,x)).map Prod.fst=xs:=fun xs=>by rw [_aK];exact List.map_id _
 have sn:∀ xs:List D,(xs.map fun x=>(x,x)).map Prod.snd=xs:=fun xs=>by rw [_aK];exact List.map_id _
 have row:∀ v∈F,zA 3 [rD v,rD v] s=.ok (.bl true) s:=fun v hv=>by
  refine z4X (k:=2) (ps:=(iL v).map fun x=>(x,x)) (G:=[]) (.inr ⟨rfl,rfl⟩) (by rw [fs];rfl) (by rw [sn];rfl) (by simp) (by rw [fs];rfl) (by rw [sn];rfl) (by have:=h v hv;simp [cap];omega) fun p hp=>?_;obtain ⟨x,hx,rfl⟩:=_F.mp hp;obtain ⟨z,_,rfl⟩:=_F.mp hx;exact same_int 1 z s
 have hin:zA 4 [.loc j,.lst (F.map rD)] s=.ok (.bl true) s:=by
  refine z4X (ps:=(F.map rD).map fun x=>(x,x)) (G:=[(j,F.map rD)]) (.inl ⟨rfl,rfl⟩) (by simp only [z95,hj,fs,_S]) (by simp only [z95,sn]) (fun p hp=>?_) (by simp only [zW,hj,fs]) (by simp only [zW,sn]) (by simpa using hl) (fun p hp=>?_);·rw [_Z.mp hp];exact hj
  ·obtain ⟨x,hx,rfl⟩:=_F.mp hp;obtain ⟨v,hv,rfl⟩:=_F.mp hx;exact row v hv
 have hii:=same_int 3 i s;exact z4X (k:=4) (ps:=[(.int i,.int i),(.loc j,.lst (F.map rD))]) (G:=[]) (s:=s) (.inr ⟨rfl,rfl⟩) rfl rfl (by simp) rfl rfl (by simp [cap]) (fun p hp=>by
  simp only [_z,_bt,or_false] at hp;rcases hp with rfl | rfl;·exact hii
  ·exact hin)
abbrev Sh(sc:D)(a1 a2 a3 a4 a5 a6 a7 a8 a9 a10 a11 a12 a13 a14:Option D):Ev:=[some sc,a1,a2,a3,a4,a5,a6,a7,a8,a9,a10,a11,a12,a13,a14]
abbrev S5(sc:D)(a1 a2:Option D)(r:Rl)(n b:Nat)(a6 a7 a8 a9 a10 a11 a12 a13 a14:Option D):Ev:=Sh sc a1 a2 (some (.str (nmR r))) (some (.int n)) (some (.int b)) a6 a7 a8 a9 a10 a11 a12 a13 a14
structure SB(n b:Nat):Prop where
 sz:Sz n
 lo:1<=b
 hi:b<=8
 pw:(b+1) ^ n<=2401
theorem zjl {n:Nat} (hn:Sz n) {Z:Ev} (h:Z[4]? = some (some (.int n))) (s:Sto):∃ far:Int,eOp dIx (jn (za (eC (.int 8)) (za (eC (.int 8)) (za (eC (.int 4)) zi)))) (eOp z9U (zc 4) (eC (.int 2))) Z s=.ok (.int far) s/\0<far/\far<2 ^ 2000/\∀ x:Int,0<=x->x<far->SB n (x.toNat+1):=by
 have l:jn (za (eC (.int 8)) (za (eC (.int 8)) (za (eC (.int 4)) zi))) Z s=.ok (.lst [.int 8,.int 8,.int 4]) s:=by simp [cap]
 have sb:eOp z9U (zc 4) (eC (.int 2)) Z s=.ok (.int ((n:Int)-2)) s:=by rw [op2 (x:=.int n) (y:=.int 2) (vr h) rfl];rfl
 have pws:∀ k b:Nat,k<=9->k ^ b<=9 ^ b:=fun k b h=>_cm h b;rcases (show n=2\/n=3\/n=4 by unfold Sz at hn;omega) with rfl | rfl | rfl
 ·refine ⟨8,by rw [op2 l sb];rfl,by decide,by decide,fun x h0 h1=>⟨hn,by omega,by omega,?_⟩⟩;exact _U (pws _ 2 (by omega)) (by decide)
 ·refine ⟨8,by rw [op2 l sb];rfl,by decide,by decide,fun x h0 h1=>⟨hn,by omega,by omega,?_⟩⟩;exact _U (pws _ 3 (by omega)) (by decide)
 ·refine ⟨4,by rw [op2 l sb];rfl,by decide,by decide,fun x h0 h1=>⟨hn,by omega,by omega,?_⟩⟩;exact _U (_cm (show x.toNat+1+1<=5 by omega) 4) (by decide)
section
variable {sc:D}{a1 a2 a6 a7 a8 a9 a10 a11 a12 a13 a14:Option D}{n b:Nat}{r:Rl}
def prD(r:Rl)(v:List Int):D:=.tup [rD v,.int (nst r v)]
theorem z84 (h:SB n b):(every n b).length<=2401:=by
 have:=kf (n:=n) (m:=b);have:=h.pw;unfold every;rw [_c8];omega
theorem f6 (h:SB n b) (s:Sto):∃ t,z21 (S5 sc a1 a2 r n b a6 a7 a8 a9 a10 a11 a12 a13 a14) s=.ok (.nx (S5 sc a1 a2 r n b (some (.lst ((every n b).map (prD r)))) a7 a8 a9 a10 a11 a12 a13 a14)) (s++t):=by
 have ev:=zeV (n:=n) (m:=b) (by have:=h.hi;omega) h.pw h.sz s;have ln:=z84 h;obtain ⟨s',e,t,rfl⟩:=zf6 (fun S=>∃ t,S=s++t) (fi:=xb (zg xQ (za (zc 4) (za (zc 5) zi)))) (mp:=[some 3,none]) (fg:=wo 1) (fe:=qq (za (zc 1) (za (zg ue (za (eOp dIx (zg zT (za (zc 0) (za (zc 1) zi))) (eC (.int 1))) zi)) zi))) (Z:=S5 sc a1 a2 r n b a6 a7 a8 a9 a10 a11 a12 a13 a14) (s:=s) rD (prD r) (fun v=>[some (.str (nmR r)),some (rD v)]) (every n b) (ve (by rw [call2 (x:=.int n) (y:=.int b) (vr rfl) (vr rfl),ev])) ⟨[],by simp⟩ (fun v _ s=>rfl) (fun v hv S ⟨t,ht⟩=>by
   subst ht;obtain ⟨u,hu⟩:=zeQ (r:=r) ((wR h.sz).mp hv) (by have:=h.hi;omega) (s++t);refine ⟨s++t++u,?_,t++u,by simp⟩;unfold prD;generalize rD v=x at *;rw [vJ,zu,vr (d:=x) rfl,Rb,zu,hu,Rb,zF];simp [cap]) (by unfold cap;omega);refine ⟨t,?_⟩;rw [z21,zK,e];rfl
theorem f7 (h:SB n b) (s:Sto):z26 (S5 sc a1 a2 r n b (some (.lst ((every n b).map (prD r)))) a7 a8 a9 a10 a11 a12 a13 a14) s=.ok (.nx (S5 sc a1 a2 r n b (some (.lst ((every n b).map (prD r)))) (some (.int (mx r n b))) a8 a9 a10 a11 a12 a13 a14)) s:=by
 have ln:=z84 h;have ne:(every n b).map (fun v=>(nst r v:Int))≠[]:=by simpa using z7W h.sz h.lo
 have c:=comp_map (s:=s) (fi:=xb (zc 6)) (mp:=[none,none]) (fg:=xW 0 1) (fe:=zc 1) (Z:=S5 sc a1 a2 r n b (some (.lst ((every n b).map (prD r)))) a7 a8 a9 a10 a11 a12 a13 a14) (prD r) (fun v=>.int (nst r v)) (fun v=>[some (rD v),some (.int (nst r v))]) (every n b) (ve (vr rfl)) (fun v _=>by unfold prD;rfl) (fun v _=>vr rfl) (by unfold cap;omega);have ec:(every n b).map (fun v=>D.int (nst r v))=iL ((every n b).map fun v=>(nst r v:Int)):=by simp [iL,_aO]
 rw [ec] at c;have gm:=zdT (ns:=(every n b).map fun v=>(nst r v:Int)) s ne;have em:maxL ((every n b).map fun v=>(nst r v:Int))=mx r n b:=rfl;rw [em] at gm;generalize iL ((every n b).map fun v=>(nst r v:Int))=X at *;generalize (every n b).map (prD r)=Yy at *;rw [z26,zK,ur (x:=.lst X) c,gm];rfl
abbrev due(r:Rl)(n b:Nat):Option D:=some (.tup [.int (mx r n b),.lst ((bst r n b).map rD)])
theorem f8 (h:SB n b) (s:Sto):z23 (S5 sc a1 a2 r n b (some (.lst ((every n b).map (prD r)))) (some (.int (mx r n b))) a8 a9 a10 a11 a12 a13 a14) s=.ok (.nx (S5 sc a1 a2 r n b (some (.lst ((every n b).map (prD r)))) (some (.int (mx r n b))) (due r n b) a9 a10 a11 a12 a13 a14)) s:=by
 have ln:=z84 h;have mn:=zee (r:=r) h.sz h.lo;have c:=wL (s:=s) (fi:=xb (zc 6)) (mp:=[some 7,none,none]) (fg:=xW 1 2) (ft:=tOf (eOp dEq (zc 2) (zc 0))) (fe:=zc 1) (Z:=S5 sc a1 a2 r n b (some (.lst ((every n b).map (prD r)))) (some (.int (mx r n b))) a8 a9 a10 a11 a12 a13 a14) (prD r) rD (fun v=>decide (nst r v=(mx r n b).toNat)) (fun v=>[some (.int (mx r n b)),some (rD v),some (.int (nst r v))]) (every n b) (ve (vr rfl)) (fun v _=>by unfold prD;rfl) (fun v _=>z2X (by rw [op2 (x:=.int (nst r v)) (y:=.int (mx r n b)) (vr rfl) (vr rfl),z7e,show decide ((nst r v:Int)=mx r n b)=decide (nst r v=(mx r n b).toNat) from decide_eq_decide.mpr (by omega)])) (fun v _ _=>vr rfl) (by unfold cap;omega);have eb:(every n b).filter (fun v=>decide (nst r v=(mx r n b).toNat))=bst r n b:=rfl;rw [eb] at c;unfold due;generalize (bst r n b).map rD=X at *;generalize (every n b).map (prD r)=Yy at *;generalize mx r n b=m at *;rw [z23,zK,vJ,zu,vr (d:=.int m) rfl,Rb,zu,c,Rb,zF];simp [cap]
abbrev zeZ:D->Ev->Sto->R Fl:=fun d Z s=>(wo 9 d Z s).bind fun Z' s'=>(zn kr (zn kB kP)) Z' s'
theorem zgt {d:D} (h:SB n b) (S:Sto):∃ b10 S',zeZ d (S5 sc a1 a2 r n b a6 a7 (due r n b) a9 a10 a11 a12 a13 a14) S = .ok (.nx (S5 sc a1 a2 r n b a6 a7 (due r n b) (some d) b10 a11 a12 a13 a14)) S'/\∀ k,k<S.length->S'[k]? = S[k]? := by
 unfold due;obtain ⟨j,S',e,hj,lj,fr⟩:=zei h.sz r h.lo h.hi S;have t:=zaw (zbE.ok e);have bl:(bst r n b).length<=2401:=by
  have:=z84 h;have h2:=List.length_filter_le (fun w=>decide (nst r w=(mx r n b).toNat)) (every n b);unfold bst;omega
 have sm:=za3 (i:=mx r n b) hj (by unfold cap;omega) (fun v hv=>by have:=((zbN h.sz).mp hv).1.lot.le4;omega);have lb:((bst r n b).map rD).length<=2401:=by simpa using bl
 generalize (bst r n b).map rD=B at *;generalize mx r n b=m at *;refine ⟨some (.tup [.int m,.loc j]),S'.set j (B++[.tup []]),?_,fun k hk=>by rw [_C (by omega),fr k hk]⟩;rw [show zeZ d (S5 sc a1 a2 r n b a6 a7 (some (.tup [.int m,.lst B])) a9 a10 a11 a12 a13 a14) S=(zn kr (zn kB kP)) (S5 sc a1 a2 r n b a6 a7 (some (.tup [.int m,.lst B])) (some d) a10 a11 a12 a13 a14) S from rfl];have f10:kr (S5 sc a1 a2 r n b a6 a7 (some (.tup [.int m,.lst B])) (some d) a10 a11 a12 a13 a14) S=.ok (.nx (S5 sc a1 a2 r n b a6 a7 (some (.tup [.int m,.lst B])) (some d) (some (.tup [.int m,.loc j])) a11 a12 a13 a14)) S':=by rw [kr,zK,z33 (x:=.str (nmR r)) (y:=.int n) (z:=.int b) (vr rfl) (vr rfl) (vr rfl),t];rfl
 have f11:kB (S5 sc a1 a2 r n b a6 a7 (some (.tup [.int m,.lst B])) (some d) (some (.tup [.int m,.loc j])) a11 a12 a13 a14) S'=.ok (.nx (S5 sc a1 a2 r n b a6 a7 (some (.tup [.int m,.lst B])) (some d) (some (.tup [.int m,.loc j])) a11 a12 a13 a14)) S':=by
  rw [kB,zcX (not_t (z2X (by rw [call2 (x:=.tup [.int m,.loc j]) (y:=.tup [.int m,.lst B]) (vr rfl) (vr rfl),sm])))];rfl
 have f13:kP (S5 sc a1 a2 r n b a6 a7 (some (.tup [.int m,.lst B])) (some d) (some (.tup [.int m,.loc j])) a11 a12 a13 a14) S'=.ok (.nx (S5 sc a1 a2 r n b a6 a7 (some (.tup [.int m,.lst B])) (some d) (some (.tup [.int m,.loc j])) a11 a12 a13 a14)) (S'.set j (B++[.tup []])):=by
  have c0:([]:List D).length<=cap:=by decide
  have fl:(D.tup []).flat=true:=rfl;have ln:B.length<cap:=by unfold cap;omega
  rw [kP,wD,z6t,op2 (x:=.tup [.int m,.loc j]) (y:=.int 1) (vr rfl) rfl,show dIx (.tup [.int m,.loc j]) (.int 1) S'=.ok (.loc j) S' from rfl,Rb];simp only [vJ,zF,Rb,_f c0,hj,_f (show (D.tup []).flat=true/\B.length<cap from ⟨fl,ln⟩)]
 rw [zh f10,zh f11,f13]
theorem zgf (h:SB n b) (S:Sto):∃ b9 b10 S',z22 (S5 sc a1 a2 r n b a6 a7 (due r n b) a9 a10 a11 a12 a13 a14) S = .ok (.nx (S5 sc a1 a2 r n b a6 a7 (due r n b) b9 b10 a11 a12 a13 a14)) S'/\∀ k,k<S.length->S'[k]? = S[k]? := by
 obtain ⟨Z',S',e,b9,b10,rfl,hl,fr⟩:=z4q (all:=wr 2) (body:=zeZ) (fun Z S1=>∃ x9 x10,Z=S5 sc a1 a2 r n b a6 a7 (due r n b) x9 x10 a11 a12 a13 a14/\S.length<=S1.length/\∀ k,k<S.length->S1[k]? = S[k]?) (wr 2) (fun x hx Z S1 hI=>by
  obtain ⟨x9,x10,rfl,hl,fr⟩:=hI;obtain ⟨b10,S2,e,f2⟩:=zgt (sc:=sc) (a1:=a1) (a2:=a2) (a6:=a6) (a7:=a7) (a9:=x9) (a10:=x10) (a11:=a11) (a12:=a12) (a13:=a13) (a14:=a14) (d:=x) (r:=r) h S1;refine ⟨_,S2,e,some x,b10,rfl,?_,fun k hk=>by rw [f2 k (by omega),fr k hk]⟩;refine _ag fun z=>?_;have h1:=f2 S2.length (by omega);have h2:S2.length<S1.length:=by omega
  rw [_aZ (_g _),_e h2] at h1;cases h1) (S5 sc a1 a2 r n b a6 a7 (due r n b) a9 a10 a11 a12 a13 a14) S ⟨_,_,rfl,_g _,fun _ _=>rfl⟩;refine ⟨b9,b10,S',?_,fr⟩;unfold z22;rw [kQ,vY (n:=2) (s1:=S) (by decide) (by simp only [zu,zF,z1u,Rb];rfl),Rb];exact e
end
end K32
namespace Pr
open L2 Dd Pm Pg Pn Po Pp
section
variable {n m:Nat}{g:List Int}(h:Lot n g)(S:Sm n m)(hg:∀ x∈g,x<=1000)(r:Rl)
include h S
include hg
end
end Pr
namespace Pp
open L2 Dd Pm Pg Pn
end Pp
namespace Pr
open L2 Dd Pm Pg Pn Po Pp
theorem zgQ(n:Nat)(b:Nat):∃ k:Nat,(if (if (b:Int)<(n:Int) then (b:Int) else n) > 1 then (if (b:Int)<(n:Int) then (b:Int) else n) else 1)=(k:Int)/\k<=b+1:=by
 by_cases h:(b:Int)<n
 ·rw [_f h];by_cases h2:(b:Int) > 1;·exact ⟨b,by rw [_f h2],by omega⟩
  ·exact ⟨1,by rw [_q h2];rfl,by omega⟩
 ·rw [_q h];by_cases h2:(n:Int) > 1;·exact ⟨n,by rw [_f h2],by omega⟩
  ·exact ⟨1,by rw [_q h2];rfl,by omega⟩
end Pr
namespace K32
open L2 Dd Pm Pg Pn Po Pr Pp Pt
theorem zco(Z:Ev)(s:Sto):jn (za (eC (.int 0)) (za (eC (.int 9)) (za (z2K (eC (.int 1))) (za (eC (.bl true)) (za (eC (.bl false)) (za (eC .non) (za (eC (.str "2")) (za (qq (za (eC (.int 2)) zi)) (za (eOp zaS (eC (.int 10)) (eC (.int 30))) (za (jn (za (eC (.int 2)) zi)) zi)))))))))) Z s=.ok (.lst zgG) s:=by simp [cap,zgG,zha]
theorem zeJ(Z:Ev)(s:Sto):jn (za (eC (.int 1)) (za (eC (.int 5)) (za (eC (.int 0)) (za (z2K (eC (.int 1))) (za (eC (.bl true)) (za (eC .non) (za (eC (.str "3")) (za (qq (za (eC (.int 3)) zi)) (za (eOp zaS (eC (.int 10)) (eC (.int 30))) (za (jn (za (eC (.int 3)) zi)) zi)))))))))) Z s=.ok (.lst zgI) s:=by simp [cap,zgI,zha]
theorem zew {xs:List D} (hl:xs.length=10) {f:FE} {Z:Ev} {s:Sto} {l:Nat} (hp:Pot s l) (hf:∀ s,f Z s=.ok (.lst xs) s) (h2:Z[2]? = some (some (.loc l))): ∃ d s',eOp dIx f (zg Pg.zL (za (zc 2) (za (eC (.int 10)) zi))) Z s=.ok d s'/\d∈xs/\z5k s s' l:=by
 obtain ⟨x,s',e,a,b,dr⟩:=z66 (f:=zc 2) (g:=eC (.int 10)) (far:=10) (Z:=Z) hp (by decide) (zdg (by decide)) (vr h2) (by simp);have hx:x.toNat<xs.length:=by omega
 refine ⟨xs[x.toNat],s',?_,_b3 hx,dr⟩;rw [xN,hf,Rb,e,Rb];exact z3p a (_e hx)
abbrev zfX:D->Ev->Sto->R Fl:=fun d Z s=>(wo 1 d Z s).bind fun Z' s'=>(zn z1J (zn z2H (zn z2g (zn z1O (zn z21 (zn z26 (zn z23 (zn z22 (zn jd (zn jg (zn jm (zn jb qY)))))))))))) Z' s'
def ShL(ns:List Int)(Z:Ev):Prop:=∃ a1 a2 a3 a4 a5 a6 a7 a8 a9 a10 a11 a12 a13 a14,Z=Sh (.scr (iL ns)) a1 a2 a3 a4 a5 a6 a7 a8 a9 a10 a11 a12 a13 a14
abbrev S4(sc:D)(a1:Option D)(l:Nat)(r:Rl)(n:Nat)(a5 a6 a7 a8 a9 a10 a11 a12 a13 a14:Option D):Ev:=Sh sc a1 (some (.loc l)) (some (.str (nmR r))) (some (.int n)) a5 a6 a7 a8 a9 a10 a11 a12 a13 a14
theorem ziO {sc:D} {a1 a5 a6 a7 a8 a9 a10 a11 a12 a13 a14:Option D} {n l:Nat} {r:Rl} {s:Sto} (hn:Sz n) (hp:Pot s l): ∃ b11 b12 b13 b14 s',(zn jd (zn jg (zn jm (zn jb qY)))) (S4 sc a1 l r n a5 a6 a7 a8 a9 a10 a11 a12 a13 a14) s=.ok (.nx (S4 sc a1 l r n a5 a6 a7 a8 a9 a10 b11 b12 b13 b14)) s':=by
 obtain ⟨dn,s1,e14,m14,d1⟩:=zew (xs:=zgG) rfl (Z:=S4 sc a1 l r n a5 a6 a7 a8 a9 a10 a11 a12 a13 a14) hp (zco _) rfl;have g14:jd (S4 sc a1 l r n a5 a6 a7 a8 a9 a10 a11 a12 a13 a14) s=.ok (.nx (S4 sc a1 l r n a5 a6 a7 a8 a9 a10 (some dn) a12 a13 a14)) s1:=by rw [jd,zK,e14];rfl
 obtain ⟨df,s2,e15,m15,d2⟩:=zew (xs:=zgI) rfl (Z:=S4 sc a1 l r n a5 a6 a7 a8 a9 a10 (some dn) a12 a13 a14) d1.pot (zeJ _) rfl;have g15:jg (S4 sc a1 l r n a5 a6 a7 a8 a9 a10 (some dn) a12 a13 a14) s1=.ok (.nx (S4 sc a1 l r n a5 a6 a7 a8 a9 a10 (some dn) (some df) a13 a14)) s2:=by rw [jg,zK,e15];rfl
 obtain ⟨no,s3,e16,hno,d3⟩:=zal r d2.pot;have g16:jm (S4 sc a1 l r n a5 a6 a7 a8 a9 a10 (some dn) (some df) a13 a14) s2=.ok (.nx (S4 sc a1 l r n a5 a6 a7 a8 a9 a10 (some dn) (some df) (some no) a14)) s3:=by rw [jm,zK,call2 (x:=.loc l) (y:=.str (nmR r)) (vr rfl) (vr rfl),e16];rfl
 have t1:=zdC hn r m14 s3;have t2:=zh6 r (e:=dn) m15 s3;have t3:=zj0 (d:=df) (e:=dn) (zhw hno s3);have g17:jb (S4 sc a1 l r n a5 a6 a7 a8 a9 a10 (some dn) (some df) (some no) a14) s3=.ok (.nx (S4 sc a1 l r n a5 a6 a7 a8 a9 a10 (some dn) (some df) (some no) (some (.lst [.str "number",.str "size",.str "rule"])))) s3:=by
  rw [jb,zK,z29,zu,z33 (x:=.str (nmR r)) (y:=.int n) (z:=dn) (vr rfl) (vr rfl) (vr rfl),t1,Rb,zu,z33 (x:=.str (nmR r)) (y:=df) (z:=dn) (vr rfl) (vr rfl) (vr rfl),t2,Rb,zu,z33 (x:=no) (y:=df) (z:=dn) (vr rfl) (vr rfl) (vr rfl),t3,Rb,zF];simp [cap]
 have g18:qY (S4 sc a1 l r n a5 a6 a7 a8 a9 a10 (some dn) (some df) (some no) (some (.lst [.str "number",.str "size",.str "rule"]))) s3=.ok (.nx (S4 sc a1 l r n a5 a6 a7 a8 a9 a10 (some dn) (some df) (some no) (some (.lst [.str "number",.str "size",.str "rule"])))) s3:=by
  have ne:dNe (.lst [.str "number",.str "size",.str "rule"]) (.lst [.str "number",.str "size",.str "rule"]) s3=.ok (.bl false) s3:=by kernel_rfl
  rw [qY,zcX (z2X (by rw [op2 (x:=.lst [.str "number",.str "size",.str "rule"]) (y:=.lst [.str "number",.str "size",.str "rule"]) (vr rfl) (by simp [cap]),ne]))];rfl
 exact ⟨_,_,_,_,_,by rw [zh g14,zh g15,zh g16,zh g17,g18]⟩
abbrev S3(ns:List Int)(j:Nat)(s:Sto)(a3 a4 a5 a6 a7 a8 a9 a10 a11 a12 a13 a14:Option D):Ev:=Sh (.scr (iL ns)) (some (.int j)) (some (.loc s.length)) a3 a4 a5 a6 a7 a8 a9 a10 a11 a12 a13 a14
theorem zgv (ns:List Int) (j:Nat) (Z:Ev) (s:Sto) (h:ShL ns Z):∃ Z' s',zfX (.int j) Z s=.ok (.nx Z') s'/\ShL ns Z':=by
 obtain ⟨a1,a2,a3,a4,a5,a6,a7,a8,a9,a10,a11,a12,a13,a14,rfl⟩:=h;rw [show zfX (.int j) (Sh (.scr (iL ns)) a1 a2 a3 a4 a5 a6 a7 a8 a9 a10 a11 a12 a13 a14) s=(zn z1J (zn z2H (zn z2g (zn z1O (zn z21 (zn z26 (zn z23 (zn z22 (zn jd (zn jg (zn jm (zn jb qY)))))))))))) (Sh (.scr (iL ns)) (some (.int j)) a2 a3 a4 a5 a6 a7 a8 a9 a10 a11 a12 a13 a14) s from rfl];obtain ⟨c,e1⟩:=zho ns j s;obtain ⟨q,e2⟩:=zkg c s;have hp:Pot (s++[[.int q]]) s.length:=⟨q,by simp⟩;have f2:z1J (Sh (.scr (iL ns)) (some (.int j)) a2 a3 a4 a5 a6 a7 a8 a9 a10 a11 a12 a13 a14) s=.ok (.nx (S3 ns j s a3 a4 a5 a6 a7 a8 a9 a10 a11 a12 a13 a14)) (s++[[.int q]]):=by rw [z1J,zK,ur (x:=.int c) (by rw [call2 (x:=.scr (iL ns)) (y:=.int j) (vr rfl) (vr rfl),e1]),e2];rfl
 obtain ⟨r,s2,e3,d2⟩:=zhA (f:=zc 2) (Z:=S3 ns j s a3 a4 a5 a6 a7 a8 a9 a10 a11 a12 a13 a14) hp (vr rfl);have f3:z2H (S3 ns j s a3 a4 a5 a6 a7 a8 a9 a10 a11 a12 a13 a14) (s++[[.int q]])=.ok (.nx (S3 ns j s (some (.str (nmR r))) a4 a5 a6 a7 a8 a9 a10 a11 a12 a13 a14)) s2:=by rw [z2H,zK,e3];rfl
 obtain ⟨x,s3,e4,x0,x3,d3⟩:=z66 (f:=zc 2) (g:=eC (.int 3)) (far:=3) (Z:=S3 ns j s (some (.str (nmR r))) a4 a5 a6 a7 a8 a9 a10 a11 a12 a13 a14) d2.pot (by decide) (zdg (by decide)) (vr rfl) rfl;have hn:Sz (x.toNat+2):=by unfold Sz;omega
 have en:(2:Int)+x=((x.toNat+2:Nat):Int):=by omega
 have f4:z2g (S3 ns j s (some (.str (nmR r))) a4 a5 a6 a7 a8 a9 a10 a11 a12 a13 a14) s2=.ok (.nx (S3 ns j s (some (.str (nmR r))) (some (.int ((x.toNat+2:Nat):Int))) a5 a6 a7 a8 a9 a10 a11 a12 a13 a14)) s3:=by rw [z2g,zK,xN,z1u,Rb,e4,Rb,z5w,en];rfl
 generalize x.toNat+2=n at *;obtain ⟨far,e5,f0,f2000,sb⟩:=zjl hn (Z:=S3 ns j s (some (.str (nmR r))) (some (.int n)) a5 a6 a7 a8 a9 a10 a11 a12 a13 a14) rfl s3;obtain ⟨y,s4,e6,y0,y1,d4⟩:=z66 (f:=zc 2) (far:=far) (Z:=S3 ns j s (some (.str (nmR r))) (some (.int n)) a5 a6 a7 a8 a9 a10 a11 a12 a13 a14) d3.pot f0 f2000 (vr rfl) e5;have sb:=sb y y0 y1;have ey:(1:Int)+y=((y.toNat+1:Nat):Int):=by omega
 have f5:z1O (S3 ns j s (some (.str (nmR r))) (some (.int n)) a5 a6 a7 a8 a9 a10 a11 a12 a13 a14) s3=.ok (.nx (S3 ns j s (some (.str (nmR r))) (some (.int n)) (some (.int ((y.toNat+1:Nat):Int))) a6 a7 a8 a9 a10 a11 a12 a13 a14)) s4:=by rw [z1O,zK,xN,z1u,Rb,e6,Rb,z5w,ey];rfl
 generalize y.toNat+1=b at *;obtain ⟨t,g6⟩:=f6 (sc:=.scr (iL ns)) (a1:=some (.int j)) (a2:=some (.loc s.length)) (a6:=a6) (a7:=a7) (a8:=a8) (a9:=a9) (a10:=a10) (a11:=a11) (a12:=a12) (a13:=a13) (a14:=a14) (r:=r) sb s4;have g7:=f7 (sc:=.scr (iL ns)) (a1:=some (.int j)) (a2:=some (.loc s.length)) (a7:=a7) (a8:=a8) (a9:=a9) (a10:=a10) (a11:=a11) (a12:=a12) (a13:=a13) (a14:=a14) (r:=r) sb (s4++t);have g8:=f8 (sc:=.scr (iL ns)) (a1:=some (.int j)) (a2:=some (.loc s.length)) (a8:=a8) (a9:=a9) (a10:=a10) (a11:=a11) (a12:=a12) (a13:=a13) (a14:=a14) (r:=r) sb (s4++t);obtain ⟨b9,b10,s5,g9,fr⟩:=zgf (sc:=.scr (iL ns)) (a1:=some (.int j)) (a2:=some (.loc s.length)) (a6:=some (.lst ((every n b).map (prD r)))) (a7:=some (.int (mx r n b))) (a9:=a9) (a10:=a10) (a11:=a11) (a12:=a12) (a13:=a13) (a14:=a14) (r:=r) sb (s4++t);have p5:Pot s5 s.length:=by
  obtain ⟨p,hp4⟩:=d4.pot.app t;exact ⟨p,by rw [fr _ (_b.mp hp4).1,hp4]⟩
 obtain ⟨b11,b12,b13,b14,s6,gr⟩:=ziO (sc:=.scr (iL ns)) (a1:=some (.int j)) (a5:=some (.int b)) (a6:=some (.lst ((every n b).map (prD r)))) (a7:=some (.int (mx r n b))) (a8:=some (.tup [.int (mx r n b),.lst ((bst r n b).map rD)])) (a9:=b9) (a10:=b10) (a11:=a11) (a12:=a12) (a13:=a13) (a14:=a14) (r:=r) hn p5;exact ⟨_,s6,by rw [zh f2,zh f3,zh f4,zh f5,zh g6,zh g7,zh g8,zh g9,gr],_,_,_,_,_,_,_,_,_,_,_,_,_,_,rfl⟩
theorem ziV (ns:List Int):∃ Z' s',z76 (Sh (.scr (iL ns)) none none none none none none none none none none none none none none) []=.ok (.nx Z') s':=by
 obtain ⟨k,ek,hk⟩:=zgQ ns.length 3;rw [show ((3:Nat):Int)=3 from rfl] at ek;obtain ⟨Z',s',e,_⟩:=z4q (all:=wr k) (body:=zfX) (fun Z _=>ShL ns Z) (wr k) (fun x hx Z s hI=>by
  obtain ⟨j,_,rfl⟩:=z9h hx;exact zgv ns j Z s hI) (Sh (.scr (iL ns)) none none none none none none none none none none none none none none) [] ⟨_,_,_,_,_,_,_,_,_,_,_,_,_,_,rfl⟩;refine ⟨Z',s',?_⟩;unfold z76;rw [kQ,vY (n:=k) (s1:=[]) (by omega) (by simp only [wE,zu,zF,z1u,xo,_n,Rb,ue,zW,_B,zdB,zdd,ek]),Rb];exact e
theorem zks (Z:Ev) (s:Sto):∃ s',z4G Z s=.ok (.rt (.bl true)) s':=by
 obtain ⟨j,S',e,hj,_,_⟩:=zei (n:=2) (b:=1) (by simp [Sz]) .al (by decide) (by decide) s;have em:mx .al 2 1=1:=by decide +kernel
 have eb:bst .al 2 1=[[1,1]]:=by decide +kernel
 rw [em] at e;rw [eb] at hj;have t:zI [.str "all",.int 2,.int 1] s=.ok (.tup [.int 1,.loc j]) S':=zaw (zbE.ok e);refine ⟨S',?_⟩;have hj':S'[j]? = some [.tup [.int 1,.int 1]]:=hj;have c2:(2:Nat)<=cap:=by decide
 have c1:(1:Nat)<=cap:=by decide
 have q:zix (.tup [.int 1,.loc j]) (.tup [.int 1,.lst [.tup [.int 1,.int 1]]]) S'=.ok (.bl true) S':=by
  have e1:z5W S' (.tup [.int 1,.loc j])=.tup [.int 1,.lst [.tup [.int 1,.int 1]]]:=by simp [z5W,see,hj']
  have e2:z5W S' (.tup [.int 1,.lst [.tup [.int 1,.int 1]]])=.tup [.int 1,.lst [.tup [.int 1,.int 1]]]:=rfl;rw [zix,e1,e2,_f (by decide +kernel)];rfl
 rw [z4G,xT];simp only [xN,wE,zu,zF,vJ,z29,z1u,Rb,_i,_u,_W,Nat.reduceAdd,_f c2,_f c1,t,q]
theorem zdi:∀ ns:List Int,ns.length<=63->∃ s',zg2 [.scr (ns.map D.int)] []=.ok (.bl true) s':=fun ns hn=>by
 obtain ⟨Z',s',e⟩:=ziV ns;obtain ⟨s'',e2⟩:=zks Z' s';refine ⟨s'',?_⟩;have st:zt ["_law_script","_law_k","_law_pot_here","_law_rule","_law_size","_law_number","_law_some","_law_most","_law_due","_law_turn","_law_found","_law_none","_law_few","_law_word","_law_told_here"] [.scr (ns.map D.int)]=Sh (.scr (iL ns)) none none none none none none none none none none none none none none:=rfl;unfold zg2 Mof zdN;rw [_f (by rfl),st,zh e,e2]
end K32
namespace K32
open L2 Dd Pg
theorem ziZ:∀ x∈rsX,x∈askQ.xs:=by decide +kernel
theorem zlN:∀ x∈csX,x∈askQ.xs:=by decide +kernel
theorem zlP:∀ x∈rsX,∀ y∈csX,((x,y),x==y)∈askQ.ps:=by decide +kernel
theorem zlK:("DrawError":Str)∈askQ.xs:=by decide +kernel
theorem zlX:∀ x∈rsX,((x,("DrawError":Str)),true)∈askQ.ps:=by decide +kernel
theorem all_mk {P:Program} {w:World} {K:W.Frag} {h:Heap} {mg:Str->Option Value} {fa:Addr} (X:K.In h) (G:h.Ns mainGlobals mg) (hfa:mg "law"=some (.ref fa)) (e:z9x askQ K=valS askQ w) : ∃ fd:FuncData,(∀ (s:Shared) (v:Value),BindsTo s fd ⟨[v],[]⟩ [("_law_script",v)])/\∀ base:Heap,K.In base->base.Ns mainGlobals mg->z4g P w K mg base CX0 11 fa fd ["_law_script"] (zfV K):=by
 obtain ⟨f0,d0,a0,F0⟩:=zN X G e 0 rfl;obtain ⟨f1,d1,a1,F1⟩:=zN X G e 1 rfl;obtain ⟨f2,d2,a2,F2⟩:=zN X G e 2 rfl;obtain ⟨f3,d3,a3,F3⟩:=zN X G e 3 rfl;obtain ⟨f4,d4,a4,F4⟩:=zN X G e 4 rfl;obtain ⟨f5,d5,a5,F5⟩:=zN X G e 5 rfl;obtain ⟨f6,d6,a6,F6⟩:=zN X G e 6 rfl;obtain ⟨f7,d7,a7,F7⟩:=zN X G e 7 rfl;obtain ⟨f8,d8,a8,F8⟩:=zN X G e 8 rfl;obtain ⟨f9,d9,a9,F9⟩:=zN X G e 9 rfl;obtain ⟨f10,d10,a10,F10⟩:=zN X G e 10 rfl;obtain ⟨f11,d11,a11,F11⟩:=zN X G e 11 rfl;obtain ⟨f12,d12,a12,F12⟩:=zN X G e 12 rfl;obtain ⟨f13,d13,a13,F13⟩:=zN X G e 13 rfl;obtain ⟨f14,d14,a14,F14⟩:=zN X G e 14 rfl;obtain ⟨f15,d15,a15,F15⟩:=zN X G e 15 rfl;obtain ⟨f16,d16,a16,F16⟩:=zN X G e 16 rfl;obtain ⟨f17,d17,a17,F17⟩:=zN X G e 17 rfl;obtain ⟨f18,d18,a18,F18⟩:=zN X G e 18 rfl;obtain ⟨f19,d19,a19,F19⟩:=zN X G e 19 rfl;obtain ⟨f20,d20,a20,F20⟩:=zN X G e 20 rfl;obtain ⟨f21,d21,a21,F21⟩:=zN X G e 21 rfl;obtain ⟨f22,d22,a22,F22⟩:=zN X G e 22 rfl;obtain ⟨f23,d23,a23,F23⟩:=zN X G e 23 rfl;obtain ⟨f24,d24,a24,F24⟩:=zN X G e 24 rfl;obtain ⟨f25,d25,a25,F25⟩:=zN X G e 25 rfl;obtain ⟨f26,d26,a26,F26⟩:=zN X G e 26 rfl;obtain ⟨f27,d27,a27,F27⟩:=zN X G e 27 rfl;obtain ⟨f28,d28,a28,F28⟩:=zN X G e 28 rfl;obtain ⟨f29,d29,a29,F29⟩:=zN X G e 29 rfl;obtain ⟨f30,d30,a30,F30⟩:=zN X G e 30 rfl;obtain ⟨f31,d31,a31,F31⟩:=zN X G e 31 rfl;obtain ⟨f32,d32,a32,F32⟩:=zN X G e 32 rfl;obtain ⟨f33,d33,a33,F33⟩:=zN X G e 33 rfl;obtain ⟨f34,d34,a34,F34⟩:=zN X G e 34 rfl;obtain ⟨f35,d35,a35,F35⟩:=zN X G e 35 rfl;obtain ⟨f36,d36,a36,F36⟩:=zN X G e 36 rfl;obtain ⟨f37,d37,a37,F37⟩:=zN X G e 37 rfl;obtain ⟨f38,d38,a38,F38⟩:=zN X G e 38 rfl;have e0:=hfa.symm.trans a38;cases e0;obtain ⟨oc,od,kV,doc,pm,an,cdv,ct,osl,rfl,hl,hc⟩:=F38.ex;have T:Txt mg:=⟨zaj X G e 0 rfl,zaj X G e 1 rfl,zaj X G e 2 rfl,vy X G e 0 rfl,vy X G e 1 rfl,vy X G e 2 rfl,vy X G e 3 rfl,vy X G e 4 rfl,vy X G e 5 rfl,vy X G e 6 rfl,vy X G e 7 rfl,vy X G e 8 rfl,vy X G e 9 rfl,vy X G e 10 rfl,vy X G e 11 rfl,vy X G e 12 rfl,vy X G e 13 rfl,vy X G e 14 rfl⟩;have T_RULES:zfw P w K mg "RULES" qd:=zjz X G e "RULES" z8r (_A (i:=0) rfl);have GG:∀ (x:Str) (v:Value),W.nsIn K mainGlobals x=some (some v)->mg x=some v:=fun x v h=>W.mg_of X G h;have E_NoNumber:zdJ K mg "NoNumber":=z6L GG (z6V e "NoNumber" (ziZ _ (by decide +kernel)));have E_NoRule:zdJ K mg "NoRule":=z6L GG (z6V e "NoRule" (ziZ _ (by decide +kernel)));have E_NoSize:zdJ K mg "NoSize":=z6L GG (z6V e "NoSize" (ziZ _ (by decide +kernel)));have FM:z5t ⟨mg,K⟩ rsX csX:=za7 GG (fun x hx=>z6V e x (ziZ x hx)) (fun x hx=>z6V e x (zlN x hx)) (fun x hx y hy=>by rw [ziY e x y (x==y) (zlP x hx y hy)];rfl);have KS:∀ c∈rsX,zjd K mg c "DrawError":=fun x hx=>zgp GG (z6V e x (ziZ x hx)) (z6V e "DrawError" zlK) (by rw [ziY e x "DrawError" true (zlX x hx)];rfl);refine ⟨W.fnOf "law" "law" (z07 z3e) (wV z3e) (ze z3e) .none kV doc pm an cdv ct,fun s v=>.of_eq rfl,fun base _ _=>?_⟩;have H0:=z6k (P:=P) (w:=w) (base:=base) T F0 a0;have H1:=z64 (P:=P) (w:=w) (base:=base) T F1 a1;have H2:=kw (P:=P) (w:=w) (base:=base) T F2 a2;have H3:=qa (P:=P) (w:=w) (base:=base) T F3 a3;have H4:=z2y (P:=P) (w:=w) (base:=base) T F4 a4;have H5:=z7O (P:=P) (w:=w) (base:=base) T F5 a5;have H6:=z7n (P:=P) (w:=w) (base:=base) T F6 a6 T_RULES;have H7:=zaJ (P:=P) (w:=w) (base:=base) T F7 a7;have H8:=z1l (P:=P) (w:=w) (base:=base) T F8 a8;have H9:=z6o (P:=P) (w:=w) (base:=base) T F9 a9;have H10:=z3N (P:=P) (w:=w) (base:=base) T F10 a10;have H11:=z2O (P:=P) (w:=w) (base:=base) T F11 a11;have H12:=z4x (P:=P) (w:=w) (base:=base) T F12 a12;have H13:=z38 (P:=P) (w:=w) (base:=base) T F13 a13;have H14:=z13 (P:=P) (w:=w) (base:=base) T F14 a14 FM;have H15:=z2P (P:=P) (w:=w) (base:=base) T F15 a15;have H16:=z39 (P:=P) (w:=w) (base:=base) T F16 a16;have H17:=z2V (P:=P) (w:=w) (base:=base) T F17 a17 H0;have HX18:=z1k (P:=P) (w:=w) (base:=base) T F18 a18 E_NoNumber H0;have HX19:=z2W (P:=P) (w:=w) (base:=base) T F19 a19 E_NoSize H0;have H20:=z6R (P:=P) (w:=w) (base:=base) T F20 a20 H3;have H21:=z5e (P:=P) (w:=w) (base:=base) T F21 a21 H3 H4;have H22:=z9f (P:=P) (w:=w) (base:=base) T F22 a22 H4 H5;have H23:=z72 (P:=P) (w:=w) (base:=base) T F23 a23 H5;have HX24:=z31 (P:=P) (w:=w) (base:=base) T F24 a24 E_NoRule H6;have H24:=z4O (P:=P) (w:=w) (base:=base) T F24 a24 H6;have H25:=z5U (P:=P) (w:=w) (base:=base) T F25 a25 H12 H13;have H26:=z0Y (P:=P) (w:=w) (base:=base) T F26 a26 H10;have H27:=z4l (P:=P) (w:=w) (base:=base) T F27 a27 H15;have H28:=z8M (P:=P) (w:=w) (base:=base) T F28 a28 H1 H17;have H29:=z52 (P:=P) (w:=w) (base:=base) T F29 a29 T_RULES H20 H21 H22 H23;have H30:=z6u (P:=P) (w:=w) (base:=base) T F30 a30 H28;have H31:=z4t (P:=P) (w:=w) (base:=base) T F31 a31 H30;have H32:=qV (P:=P) (w:=w) (base:=base) T F32 a32 H24 H30;have H33:=z4W (P:=P) (w:=w) (base:=base) T F33 a33 H31 H32;have H34:=zdx (P:=P) (w:=w) (base:=base) T F34 a34 H7 H29 H33;have HX35:=z00 (P:=P) (w:=w) (base:=base) T F35 a35 H2 H31 H34;have HX36:=z2A (P:=P) (w:=w) (base:=base) T F36 a36 HX18 HX19 HX24 HX35;have H37:=z4s (P:=P) (w:=w) (base:=base) T F37 a37 KS H14 HX36;have H38:=z8I (P:=P) (w:=w) (base:=base) T F38 a38 H8 H9 H10 H11 H16 H25 H26 H27 H37;exact ziR (x:="law") H38 zdi
theorem boot_:∀ w:World,(W.fencedOpening treeTable PySem.Challenge.pw_drawndown_k32_most_steps_of_small_lots w 10306).map (fun s=>(s.heap,s.gens,s.drawn,s.toks))=some (W.boot_heap w.params,Array.mk [],W.boot_drawn,W.boot_toks):= W.boot_open (by kernel_rfl) (by decide) (fun s=>by kernel_rfl)
theorem left_:W.LeftO PySem.Challenge.pw_drawndown_k32_most_steps_of_small_lots qv looseQ xtQ (obsS askQ) (valS askQ) 10306:=zbu "special-get-raises" boot_ (fun w os=>z3d (f:=fun s=>(seenQ s,obsS askQ s)) (zkP w) (bsz w) (z6A (z51 w os) (z5G w os))) (fun w os=>z3d (f:=fun s=>(seenQ s,obsS askQ s)) (zkP w) (bsz w) (z6A (z7c w os) (z7r w os)))
end K32
open PySem.W
set_option maxRecDepth 100000 in
set_option maxHeartbeats 0 in
theorem PySem.Challenge.cw_drawndown_k32_most_steps_of_small_lots_holds : PySem.Challenge.rw_drawndown_k32_most_steps_of_small_lots.Holds := by
  w_on; o_law
  refine holds_open (q := K32.qv) (loose := K32.looseQ) (Xt := K32.xtQ) (XP := XL K32.qv K32.lvQ) (Yf := Dd.obsS K32.askQ) (Ya := Dd.valS K32.askQ) (YP := Dd.saysS K32.askQ) (N := 10306) K32.left_ (Dd.zeO K32.askQ) (Dd.z9a K32.askQ) (fun s e => xl_of s (Bool.and_eq_true_iff.mp e).1) XL.keeps (by rfl) (by rfl) (by rfl) (fun s e => recFacts_of (Bool.and_eq_true_iff.mp e).2) (by rfl) (by first | assumption | decide +kernel) (by decide +kernel) ⟨rfl, rfl, rfl, rfl, rfl, by decide +kernel⟩ ?hw ?hc
  (case hw => w_witness2)
  refine Dd.walkY (l := PySem.Challenge.rw_drawndown_k32_most_steps_of_small_lots) (n := 63) (k := 11) (x := "_law_script") rfl (by decide) (by decide) rfl ⟨rfl, by decide, by decide, rfl⟩ ?F
  case F =>
    intro w mg fa h Yy G hmg XP
    obtain ⟨K, KX, e⟩ := Yy
    exact ⟨K, KX, K32.all_mk KX G hmg e ⟩
