import PyProof.Rows.All
import Wide.All
import OpenK.AllK
import Wide.FinOn
import Lean
import PyProof.EqAt
import PyProof.EqKinds
import PyProof.TupleCall
import PyProof.ExcArgsOwn
import PyProof.ExcAttrAll.ValueError
import PyProof.ListMulRoad
import PyProof.Rows.Range3
import KE.KDictLaws
import PyProof.Rows.CallKwBuiltin
import PyProof.Rows.SortRuns
import KE.KDictSum
import PyProof.Rows.SetFrom
import PySem.Challenge.RW_drawndown_k33_whole_beside
set_option Elab.async false
set_option linter.all false
set_option maxRecDepth 100000
set_option maxHeartbeats 1000000
set_option exponentiation.threshold 5000
open PySem PySem.Spec PyProof.Rows
abbrev _a:=@wpAny_bind
abbrev _b:=@wpAny_pure
abbrev _c:=@Heap.get?_push_of_some
abbrev _d:=@List.getElem?_eq_some_iff
abbrev _e:=@List.getElem?_eq_getElem
abbrev _f:=@if_pos
abbrev _g:=@Heap.get?_push_size
abbrev _h:=@Nat.le_refl
abbrev _i:=@if_neg
abbrev _j:=@List.map_cons
abbrev _k:=@List.getD_eq_getElem?_getD
abbrev _l:=@Heap.lt_size
abbrev _m:=@List.getElem?_cons_zero
abbrev _n:=@List.length_cons
abbrev _o:=@List.getElem?_cons_succ
abbrev _p:=@List.mem_cons
abbrev _q:=@List.size_toArray
abbrev _r:=@List.getElem?_append_left
abbrev _s:=@Bool.false_eq_true
abbrev _t:=@Nat.ne_of_lt
abbrev _u:=@Option.some.injEq
abbrev _v:=@Nat.lt_of_lt_of_le
abbrev _w:=@List.length_map
abbrev _x:=@Option.map_eq_some_iff
abbrev _y:=@List.mem_of_getElem?
abbrev _z:=@List.mem_iff_getElem
abbrev _A:=@List.mem_map
abbrev _B:=@List.mem_append_right
abbrev _C:=@List.mem_cons_of_mem
abbrev _D:=@wpAny_mono
abbrev _E:=@Option.some.inj
abbrev _F:=@List.length_nil
abbrev _G:=@wpAny_newObj_type
abbrev _H:=@Option.map_some
abbrev _I:=@wpAny_call_entry
abbrev _J:=@Option.bind_some
abbrev _K:=@List.mem_cons_self
abbrev _L:=@List.getElem?_set_ne
abbrev _M:=@List.mem_append
abbrev _N:=@if_true
abbrev _O:=@Classical.byContradiction
abbrev _P:=@if_false
abbrev _Q:=@List.mem_range
abbrev _R:=@Bool.false_ne_true
abbrev _S:=@List.getElem?_map
abbrev _T:=@Bool.and_eq_true
abbrev _U:=@wpAny_callSpecial?_slot
abbrev _V:=@List.all_eq_true
abbrev _W:=@List.lookup_cons
abbrev _X:=@wpAny_holding
abbrev _Y:=@Nat.zero_le
abbrev _Z:=@List.getElem?_set_self
abbrev _aa:=@Nat.lt_succ_of_lt
abbrev _ab:=@decide_eq_false
abbrev _ac:=@PyProof.Rows.slot_tuple_getitem
abbrev _ad:=@Nat.le_trans
abbrev _ae:=@Array.length_toList
abbrev _af:=@PySem.mem_of_lookup
abbrev _ag:=@List.replicate_succ
abbrev _ah:=@Heap.SameBut.update
abbrev _ai:=@List.map_map
abbrev _aj:=@List.getElem?_append_right
abbrev _ak:=@Option.bind_eq_some_iff
abbrev _al:=@List.length_append
abbrev _am:=@Option.isSome_iff_exists
abbrev _an:=@Heap.get?_update_self
abbrev _ao:=@PyProof.Rows.callWith_type1
abbrev _ap:=@wpAny_setState_of
abbrev _aq:=@congrArg
abbrev _ar:=@wpAny_field
abbrev _as:=@Heap.size_push
abbrev _at:=@List.mem_of_mem_take
abbrev _au:=@Option.getD_some
abbrev _av:=@Nat.zero_add
abbrev _aw:=@F.slot_dict_valueiterator_next
abbrev _ax:=@List.drop_eq_getElem_cons
abbrev _ay:=@List.map_congr_left
abbrev _az:=@wpAny_truthy_bool
abbrev _aA:=@Int.toNat_natCast
abbrev _aB:=@List.reverse_cons
abbrev _aC:=@decide_eq_true_eq
abbrev _aD:=@List.getElem?_eq_none
abbrev _aE:=@List.getElem?_take_of_lt
abbrev _aF:=@List.eq_of_mem_replicate
abbrev _aG:=@F.slot_dict_keyiterator_next
abbrev _aH:=@PassesOwn.never
abbrev _aI:=@wpAny_Call_Name_kw
abbrev _aJ:=@PySem.F.called_set
abbrev _aK:=@List.mem_append_left
abbrev _aL:=@List.getElem_inj
abbrev _aM:=@sizeLine_eq
abbrev _aN:=@Nat.lt_irrefl
abbrev _aO:=@SeqAt.canLay_of_shaped
abbrev _aP:=@wpAny_seqItems
abbrev _aQ:=@List.append_nil
abbrev _aR:=@Nat.lt_succ_self
abbrev _aS:=@wpAny_standAt
abbrev _aT:=@Bool.not_true
abbrev _aU:=@wpAny_setField
abbrev _aV:=@wpAny_typeNameOfWhole_keyiter
abbrev _aW:=@wpAny_typeNameOfWhole_valiter
abbrev _aX:=@Nat.pow_le_pow_right
abbrev _aY:=@List.flatten_cons
abbrev _aZ:=@List.pairwise_map
abbrev _a0:=@Function.comp_def
abbrev _a1:=@List.foldl_cons
abbrev _a2:=@codeAny_builtin
abbrev _a3:=@Int.emod_nonneg
abbrev _a4:=@Ne.symm
abbrev _a5:=@Heap.get?_update_other
abbrev _a6:=@wpAny_askSetting
abbrev _a7:=@List.ext_getElem
abbrev _a8:=@List.set_cons_zero
abbrev _a9:=@F.slot_tuple_iterator_next
abbrev _ba:=@wpAny_setField_rec
abbrev _bb:=@List.pairwise_cons
abbrev _bc:=@Int.emod_lt_of_pos
abbrev _bd:=@List.mem_singleton
abbrev _be:=@Calls.call_function_entry
abbrev _bf:=@List.pairwise_iff_getElem
abbrev _bg:=@wpAny_passesOwn
abbrev _bh:=@List.find?_cons
abbrev _bi:=@List.cons.injEq
abbrev _bj:=@bne_self_eq_false
abbrev _bk:=@Heap.get?_push_ne
abbrev _bl:=@wpAny_dictEntries
abbrev _bm:=@Around.under_plainId
abbrev _bn:=@List.any_cons
abbrev _bo:=@List.cons_append
abbrev _bp:=@List.length_eq_zero_iff
abbrev _bq:=@List.map_zipWith
abbrev _br:=@Nat.le_succ
abbrev _bs:=@List.mem_filterMap
abbrev _bt:=@Calls.callWith_builtin
abbrev _bu:=@tupleKind_room_in1
abbrev _bv:=@Int.lt_of_le_of_lt
abbrev _bw:=@List.nil_append
abbrev _bx:=@wpAny_dictEpoch
abbrev _by:=@List.dropLast_concat_getLast
abbrev _bz:=@W.kia_one
abbrev _bA:=@wpAny_attempt
abbrev _bB:=@Prod.mk.injEq
abbrev _bC:=@wpAny_newList
abbrev _bD:=@List.set_append_right
abbrev _bE:=@List.take_sublist
abbrev _bF:=@decide_eq_true
abbrev _bG:=@codeAny_mono
abbrev _bH:=@List.length_drop
abbrev _bI:=@wpAny_isInstance
abbrev _bJ:=@List.not_mem_nil
abbrev _bK:=@List.filterMap_cons
abbrev _bL:=@PySem.F.args_tuple_add_2
abbrev _bM:=@wpAny_comprehension_free
abbrev _bN:=@Bool.true_and
abbrev _bO:=@listUpdate_at
abbrev _bP:=@List.map_drop
abbrev _bQ:=@SetTable.toList_insertAt
abbrev _bR:=@List.mem_filter
abbrev _bS:=@List.nodup_cons
abbrev _bT:=@List.of_mem_zip
abbrev _bU:=@wpAny_loadPart'
abbrev _bV:=@List.map_append
abbrev _bW:=@Nat.not_lt_zero
abbrev _bX:=@Calls.spliced_cons
abbrev _bY:=@beq_iff_eq
abbrev _bZ:=@List.lookup_append
abbrev _b0:=@List.set_cons_succ
abbrev _b1:=@PySem.F.entry_tuple_add
abbrev _b2:=@List.pairwise_mergeSort
abbrev _b3:=@F.plain_set_update_loop
abbrev _b4:=@Nat.le_of_lt
abbrev _b5:=@Nat.ne_of_gt
abbrev _b6:=@PySem.F.slot_tuple_add
abbrev _b7:=@wpAny_typeOf
abbrev _b8:=@subscriptTail_builtinR
abbrev _b9:=@List.take_of_length_le
abbrev _ca:=@wpAny_fieldsOf
abbrev _cb:=@wpAny_pyIter_slot
abbrev _cc:=@F.args_dict_valueiterator_next_1
abbrev _cd:=@Bool.and_false
abbrev _ce:=@List.pairwise_lt_range
abbrev _cf:=@F.entry_dict_valueiterator_next
abbrev _cg:=@List.length_replicate
abbrev _ch:=@PySem.F.slot_dict_get
abbrev _ci:=@wpAny_isOneOf_valiter
abbrev _cj:=@List.take_append_drop
abbrev _ck:=@Int.mul_ediv_add_emod
abbrev _cl:=@wpAny_rule
abbrev _cm:=@List.length_take
abbrev _cn:=@List.prefix_refl
abbrev _co:=@List.drop_length
abbrev _cp:=@List.getElem_mem
abbrev _cq:=@wpAny_forIn_list
abbrev _cr:=@Array.eq_empty_of_size_eq_zero
abbrev _cs:=@F.args_dict_keyiterator_next_1
abbrev _ct:=@List.nodup_range
abbrev _cu:=@List.Nodup.length_le_of_subset
abbrev _cv:=@List.mem_reverse
abbrev _cw:=@Paired.length
abbrev _cx:=@Bool.and_true
abbrev _cy:=@List.map_take
abbrev _cz:=@Array.mem_toList_iff
abbrev _cA:=@Calls.evalArgs_plain
abbrev _cB:=@wpAny_of_eq
abbrev _cC:=@wpAny_updateSeq_pair
abbrev _cD:=@F.entry_dict_keyiterator_next
abbrev _cE:=@Int.mul_le_mul_of_nonneg_left
abbrev _cF:=@Int.natAbs_of_nonneg
abbrev _cG:=@List.eq_nil_of_length_eq_zero
abbrev _cH:=@wpAny_execs_nil
abbrev _cI:=@pushCells_keeps
abbrev _cK:=@F.slot_zip_next
abbrev _cL:=@Int.le_antisymm
abbrev _cM:=@Bool.eq_iff_iff
abbrev _cN:=@entry_list_sort
abbrev _cO:=@List.take_succ_cons
abbrev _cP:=@List.getElem?_range
abbrev _cQ:=@List.length_pos_iff
abbrev _cR:=@List.length_reverse
abbrev _cS:=@Nat.lt_trans
abbrev _cW:=@assignInOrder_cons
abbrev _cX:=@Bool.false_and
abbrev _cY:=@isSubtype_stop
abbrev _cZ:=@slot_list_sort
abbrev _c0:=@args_list_sort
abbrev _c1:=@List.drop_zero
abbrev _c2:=@Nat.not_lt
abbrev _c3:=@List.filter_append
abbrev _c5:=@Bool.not_false
abbrev _db:=@wpAny_assign_Name
abbrev _dc:=@Calls.spliced_nil
abbrev _dd:=@slot_list_getitem
abbrev _de:=@List.append_assoc
abbrev _df:=@Nat.le_of_succ_le
abbrev _dg:=@Option.isSome_map
abbrev _dh:=@List.nodup_append
abbrev _di:=@wpAny_pyIter_list
abbrev _dj:=@seqEpoch_at
abbrev _dk:=@Nat.le_succ_of_le
abbrev _dl:=@Bool.not_eq_true'
abbrev _dn:=@wpAny_handled
abbrev _do:=@wpAny_onRaise
abbrev _dq:=@sortedAll_old
abbrev _ds:=@Int.dvd_trans
abbrev _du:=@wpAny_eqBool_int
abbrev _dw:=@noFill_tuple_add
abbrev _dx:=@Nat.le_of_not_lt
abbrev _dA:=@Nat.le_add_right
abbrev _dB:=@Heap.size_update
abbrev _dD:=@List.filter_cons
abbrev _dH:=@putSet_of
abbrev _dJ:=@List.any_eq_true
abbrev _dL:=@List.map_nil
abbrev _dP:=@listItems_at
abbrev _dQ:=@plain_sorted
abbrev _dR:=@entry_sorted
abbrev _dS:=@args_sorted1
abbrev _dT:=@size_push'
abbrev _dU:=@sortedAll_at
abbrev _dW:=@Nat.pow_succ
abbrev _dX:=@Int.dvd_zero
noncomputable section
namespace Dd
def dArgs(s:Stmt):Arguments:=match s with
 | .FunctionDef _ a _ _ _ _ _ _ _ _=>a | _=>{posonlyargs:=[],args:=[],vararg:=none,kwonlyargs:=[],kw_defaults:=[],kwarg:=none,defaults:=[]}
def zhk(s:Stmt):List Stmt:=match s with
 | .FunctionDef _ _ b _ _ _ _ _ _ _=>b | _=>[]
def zdn(s:Stmt):Scope:=match s with
 | .FunctionDef _ _ _ _ _ _ sc _ _ _=>sc | _=>{kind:=.function,names:=[],isGenerator:=false,isCoroutine:=false}
def z5F(h:Heap)(a:Addr):W.Frag:=match h.get? a with | some o=>[(a,o)] | none=>[]
def zkD(h:Heap)(g:W.Frag)(x:Str):W.Frag:=match W.nsIn g mainGlobals x with
 | some (some (.ref f))=>z5F h f++(match h.get? f with
   | some ⟨_,_,.func fd,_⟩=>(match fd.code with | .ref c=>z5F h c | _=>[]) | some ⟨_,_,.cls cd,_⟩=>z5F h cd.ns | _=>[]) | _=>[]
def gat(h:Heap)(ns:List Str):W.Frag:=z5F h mainGlobals++ns.flatMap (zkD h (z5F h mainGlobals))
abbrev FV:=Str×Str×Arguments×FuncBody×Scope×Addr×List (Str×Addr)×Value×Addr×Bool×Bool
def zfH(K:W.Frag)(x:Str):Option FV:=match W.nsIn K mainGlobals x with
 | some (some (.ref f))=>(match K.lookup f with
   | some ⟨_,_,.func fd,_⟩=>some (fd.name,fd.qualname,fd.params,fd.body,fd.scope,fd.globals,fd.closure,fd.defaults,fd.builtins,W.codeIn K fd.code fd.qualname,W.keepIn K (.ref f)) | _=>none) | _=>none
def zjp(x:Str)(st:Stmt):Option FV:=some (x,x,dArgs st,.stmts (zhk st),zdn st,mainGlobals,[],.none,builtinsNs,true,true)
def zf6(K:W.Frag)(x:Str):Bool:=match W.nsIn K mainGlobals x with | some none=>true | _=>false
def zg7(K:W.Frag)(x:Str):Option Int:=match W.nsIn K mainGlobals x with | some (some (.int i _))=>some i | _=>none
def sameRef:Value->Option (Option Value)->Bool
 | .ref f,some (some (.ref g))=>f==g | _,_=>false
def z51:Value->Option Str
 | .str k _=>some k | _=>none
def z0A:Value->Bool
 | .type c=>c=="dict" | _=>false
def z1j(K:W.Frag):List DictEntry->List Str->List (Int×Option Str×Bool)
 | e::es,y::ys=>(e.hash,z51 e.key,sameRef e.val (W.nsIn K mainGlobals y))::z1j K es ys | [],[]=>[] | _,_=>[(0,none,false)]
def zak(K:W.Frag)(x:Str)(ys:List Str):Option (Bool×Bool×Bool×Bool×List (Int×Option Str×Bool)):=match W.nsIn K mainGlobals x with
 | some (some (.ref a))=>(match K.lookup a with
   | some ⟨c,d,.dict es _,sl⟩=>some (z0A c,d.isNone,sl.size==0,a==sysModules,z1j K es.toList ys) | _=>none) | _=>none
def zgM(w:World)(tb:List (Str×Str)):Option (Bool×Bool×Bool×Bool×List (Int×Option Str×Bool)):=some (true,true,true,false,tb.map λp=>(PyData.keyHash w.params p.1,some p.1,true))
def zic:List Value->Option (List Int)
 | []=>some [] | .int i _::r=>(zic r).map (i::·) | _=>none
def zbJ:Value->Bool
 | .type c=>c=="tuple" | _=>false
def zj0(K:W.Frag)(x:Str):Option (Bool×Option (List Int)):=match W.nsIn K mainGlobals x with
 | some (some (.ref a))=>(match K.lookup a with
   | some ⟨c,_,.seq its _,_⟩=>some (zbJ c,zic its.toList) | _=>none) | _=>none
def bmV:List Value:=[.type "ValueError",.type "Exception",.type "BaseException",.type "object"]
def zaw(K:W.Frag)(C:Addr):Bool:=match K.lookup C with | some ⟨.type t,_,.cls _,_⟩=>t=="type" | _=>false
def ziY(K:W.Frag)(x:Str):Bool:=match W.nsIn K mainGlobals x with
 | some (some (.ref C))=>W.excIn K C bmV "ValueError.__new__"&&(W.findIn K (.ref C) "__getattribute__"==some (some (.builtin "BaseException.__getattribute__"))&&(W.findIn K (.ref C) "__getattr__"==some none && (W.findIn K (.ref C) "__class__"==some (some (.builtin "object.__class__"))&&(W.mroIn K C (.type "object")==some true&&(W.mroIn K C (.type "BaseException")==some true&&(zaw K C&&W.kitOne K (.ref C) (.type "ValueError")==some true)))))) | _=>false
def zgR(K:W.Frag)(x y:Str):Option (Option Bool×Option Bool):=match W.nsIn K mainGlobals x,W.nsIn K mainGlobals y with
 | some (some (.ref C)),some (some (.ref D))=>some (W.mroIn K C (.ref D),W.kitOne K (.ref C) (.ref D)) | _,_=>none
abbrev Obs:=List (Option FV)×List Bool×List (Option Int)×List (Option (Bool×Bool×Bool×Bool×List (Int×Option Str×Bool)))×List (Option (Bool×Option (List Int)))×List Bool×List (Option (Option Bool×Option Bool))
structure Ask where
 fs:List (Str×Stmt)
 bs:List Str
 cs:List (Str×Int)
 ts:List (Str×List (Str×Str))
 us:List (Str×List Int)
 xs:List Str
 ps:List ((Str×Str)×Bool)
def z9N(q:Ask)(K:W.Frag):Obs:=(q.fs.map λp=>zfH K p.1,q.bs.map (zf6 K),q.cs.map λp=>zg7 K p.1,q.ts.map (λp=>zak K p.1 (p.2.map (·.2))),q.us.map (λp=>zj0 K p.1),q.xs.map (ziY K),q.ps.map λp=>zgR K p.1.1 p.1.2)
def obsS(q:Ask)(s:Shared):Obs:=z9N q (gat s.heap (q.fs.map (·.1)++q.ts.map (·.1)++q.us.map (·.1)++q.xs))
def valS(q:Ask)(w:World):Obs:=(q.fs.map λp=>zjp p.1 p.2,q.bs.map λ_=>true,q.cs.map λp=>some p.2,q.ts.map (λp=>zgM w p.2),q.us.map (λp=>some (true,some p.2)),q.xs.map λ_=>true,q.ps.map λp=>some (some p.2,some p.2))
def z0U(tb:String->Option Builtin)(p:Program)(w:World)(n₀:Nat)(ann:Option Value):Nat->W.SharedT->Thread->Option W.SharedT
 | 0,_,_=>none | n+1,s,t=>match W.through t with
  | true=>some s | false=>match W.stepOk n₀ ann t with
   | false=>none | true=>match W.stepT (denote tb) p w s t with
    | some (s',t')=>z0U tb p w n₀ ann n s' t' | none=>none
def zh4(l:List Obj):W.BT×Nat:=l.foldl (λa o=>(a.1.ins a.2 o,a.2+1)) (W.BT.nil,0)
def zgJ(P:Params):W.BT:=(zh4 (W.boot_heap P).objs.toList).1
end Dd
namespace K33
open Dd
def top(i:Nat):Stmt:=PySem.Challenge.pw_drawndown_k33_whole_beside.main.body.getD i (.Pass ⟨0,0,0,0⟩)
abbrev qO:Stmt:=top 10
abbrev qF:Stmt:=top 12
abbrev xF:Stmt:=top 15
abbrev vb:Stmt:=top 21
abbrev yH:Stmt:=top 23
abbrev wY:Stmt:=top 24
abbrev kq:Stmt:=top 25
abbrev jW:Stmt:=top 31
abbrev z3e:Stmt:=top 38
abbrev ww:Stmt:=top 49
abbrev qU:Stmt:=top 50
abbrev uK:Stmt:=top 51
abbrev vt:Stmt:=top 53
abbrev vp:Stmt:=top 11
abbrev wU:Stmt:=top 13
abbrev uI:Stmt:=top 14
abbrev kj:Stmt:=top 26
abbrev qw:Stmt:=top 27
abbrev z0o:Stmt:=top 28
abbrev kn:Stmt:=top 29
abbrev uo:Stmt:=top 32
abbrev qM:Stmt:=top 52
abbrev z16:Stmt:=top 17
abbrev qL:Stmt:=top 37
abbrev qt:Stmt:=top 18
abbrev ud:Stmt:=top 19
abbrev yW:Stmt:=top 33
abbrev uH:Stmt:=top 34
abbrev z5A:Stmt:=top 35
abbrev vE:Stmt:=top 36
abbrev zau:Stmt:=top 39
abbrev wB:Stmt:=top 47
abbrev uj:Stmt:=top 40
abbrev vH:Stmt:=top 43
abbrev vC:Stmt:=top 45
abbrev vJ:Stmt:=top 46
abbrev qA:Stmt:=top 44
abbrev z1F:Stmt:=top 54
def z3h:List (Str×Str):=[("next","by_next"),("least","by_least"),("all","by_all"),("turn","by_turn")]
def askQ:Ask:=⟨[(("is_whole":Str),qO), (("has_size":Str),qF), (("tuples_between":Str),xF), (("like_places":Str),vb), (("greatest_and_others":Str),yH), (("least_place":Str),wY), (("all_but":Str),kq), (("is_rule":Str),jW), (("moved":Str),z3e), (("_law_cell_at":Str),ww), (("_law_pot":Str),qU), (("_law_take":Str),uK), (("_law_rules":Str),vt), (("are_wholes":Str),vp), (("want_number":Str),wU), (("want_size":Str),uI), (("by_next":Str),kj), (("by_least":Str),qw), (("by_all":Str),z0o), (("by_turn":Str),kn), (("want_rule":Str),uo), (("_law_lot":Str),qM), (("is_lot":Str),z16), (("division":Str),qL), (("want_lot":Str),qt), (("has_ended":Str),ud), (("want_rule_and_lot":Str),yW), (("want_step":Str),uH), (("step":Str),z5A), (("step_table":Str),vE), (("run":Str),zau), (("steps_of_all":Str),wB), (("tables_of":Str),uj), (("many_steps":Str),vH), (("common_end":Str),vC), (("most_steps":Str),vJ), (("by_steps":Str),qA), (("law":Str),z1F)], [("all":Str),("bool":Str),("int":Str),("isinstance":Str),("len":Str),("list":Str),("max":Str),("min":Str),("range":Str),("set":Str),("sorted":Str),("str":Str),("tuple":Str),("zip":Str)], [(("LEAST_SIZE":Str),(2:Int)),(("MOST_NUMBER":Str),(8:Int)),(("MOST_SIZE":Str),(4:Int))], [(("RULES":Str),z3h)], [], [], []⟩
def qv:Program:=W.view PySem.Challenge.pw_drawndown_k33_whole_beside [54]
def looseQ:List Str:=[("DrawError":Str),("NoLot":Str),("NoRule":Str),("Ended":Str),("NoSize":Str),("NoNumber":Str),("LEAST_SIZE":Str),("MOST_SIZE":Str),("is_whole":Str),("are_wholes":Str),("has_size":Str),("want_number":Str),("want_size":Str),("tuples_between":Str),("is_lot":Str),("want_lot":Str),("has_ended":Str),("like_places":Str),("greatest_and_others":Str),("least_place":Str),("all_but":Str),("by_next":Str),("by_least":Str),("by_all":Str),("by_turn":Str),("RULES":Str),("is_rule":Str),("want_rule":Str),("want_rule_and_lot":Str),("want_step":Str),("step":Str),("step_table":Str),("division":Str),("moved":Str),("run":Str),("tables_of":Str),("MOST_NUMBER":Str),("many_steps":Str),("by_steps":Str),("common_end":Str),("most_steps":Str),("steps_of_all":Str),("_law_cell_at":Str),("_law_pot":Str),("_law_take":Str),("_law_lot":Str),("_law_rules":Str)]
def lvQ:List (Str×W.WData):=[]
def xtQ:Shared->Bool:=λs=>W.xlAt qv lvQ s&&W.recOk (W.RowW.records (W.OpenRow.toRowW (W.OpenLaw.row PySem.Challenge.rw_drawndown_k33_whole_beside))) s
theorem zky:∀w:World,W.absHeap (zgJ w.params) 11 (W.boot_heap w.params).life=W.boot_heap w.params:=by
 intro w;kernel_rfl
theorem bsz:∀w:World,((W.boot_heap w.params).isNs mainGlobals&&(Array.mk []:Array GenState).size==0,(W.boot_heap w.params).objs.size,(W.boot_heap w.params).nsMap mainGlobals "__annotations__")=(true,11,(some (.ref 6))):=by
 intro w;kernel_rfl
def ziI(w v:World)(os:OsState):Option W.SharedT:=z0U treeTable PySem.Challenge.pw_drawndown_k33_whole_beside v 11 (some (.ref 6)) 5140 ⟨zgJ w.params,11,(W.boot_heap w.params).life,Array.mk [],W.boot_drawn,W.boot_toks,os⟩ (W.topStub PySem.Challenge.pw_drawndown_k33_whole_beside)
def zi0(w:World)(s:W.SharedT):Bool:=W.staticsOk (importedModules PySem.Challenge.pw_drawndown_k33_whole_beside.main.body) (W.boot_heap w.params) s.abs.heap&&W.namesBound PySem.Challenge.pw_drawndown_k33_whole_beside s.abs.heap&&W.gensDone s.abs&&W.laidKept (W.boot_heap w.params) s.abs.heap
def seenQ(s:Shared):=W.openSeen qv looseQ (importedModules PySem.Challenge.pw_drawndown_k33_whole_beside.main.body) xtQ true s
set_option maxRecDepth 1000000 in
theorem z3G:∀(w:World)(os:OsState),(ziI w (w.withFollow "special-get-raises" false) os).map (λs=>(zi0 w s,obsS askQ s.abs))=some (true,valS askQ (w.withFollow "special-get-raises" false)):=by
 intro w os;kernel_rfl
set_option maxRecDepth 1000000 in
theorem z4j:∀(w:World)(os:OsState),(ziI w (w.withFollow "special-get-raises" false) os).map (λs=>seenQ s.abs)=some (W.openGood qv looseQ):=by
 intro w os;kernel_rfl
set_option maxRecDepth 1000000 in
theorem z5W:∀(w:World)(os:OsState),(ziI w (w.withFollow "special-get-raises" true) os).map (λs=>(zi0 w s,obsS askQ s.abs))=some (true,valS askQ (w.withFollow "special-get-raises" true)):=by
 intro w os;kernel_rfl
set_option maxRecDepth 1000000 in
theorem z68:∀(w:World)(os:OsState),(ziI w (w.withFollow "special-get-raises" true) os).map (λs=>seenQ s.abs)=some (W.openGood qv looseQ):=by
 intro w os;kernel_rfl
set_option maxRecDepth 1000000 in
theorem said_:W.OpenLaw.wellSaid PySem.Challenge.rw_drawndown_k33_whole_beside=true:=by kernel_rfl
end K33
namespace L2
abbrev Key:=Sum Int Str
def z1s:Key->Value->Bool
 | .inl k,v=>Value.isInt k v | .inr x,v=>Value.isStrOf x v
def zlv(w:World):Key->Int
 | .inl k=>hashInt k | .inr x=>hashStr w x
theorem zS:∀{k:Key} {v:Value},z1s k v=true->(∃i t,k=Sum.inl i/\v=Value.int i t)\/(∃x t,k=Sum.inr x/\v=Value.str x t)
 | .inl i,v,h=>by
  obtain⟨t,e⟩:=Value.isInt_shape (k:=i) (v:=v) h;exact .inl ⟨i,t,rfl,e⟩ | .inr x,v,h=>by
  obtain⟨t,e⟩:=Value.isStrOf_shape (x:=x) (v:=v) h;exact .inr ⟨x,t,rfl,e⟩
theorem z8R(i:Int)(t:Tok):z1s (.inl i) (.int i t)=true:=by simp[z1s,Value.isInt]
theorem jA(x:Str)(t:Tok):z1s (.inr x) (.str x t)=true:=by simp[z1s,Value.isStrOf]
theorem zio(a b:Int):decide ((Sum.inl a:Key)=Sum.inl b)=(a==b):=by
 by_cases e:a=b;·subst e;simp
 ·have h:¬ (Sum.inl a:Key)=Sum.inl b:=λq=>e (Sum.inl.inj q);rw[_ab h];exact (beq_eq_false_iff_ne.mpr e).symm
theorem ziw(a b:Str):decide ((Sum.inr a:Key)=Sum.inr b)=decide (a=b):=by
 by_cases e:a=b;·subst e;simp
 ·have h:¬ (Sum.inr a:Key)=Sum.inr b:=λq=>e (Sum.inr.inj q);rw[_ab h,_ab e]
theorem zgZ(a:Int)(b:Str):decide ((Sum.inl a:Key)=Sum.inr b)=false:=_ab (λq=>nomatch q)
theorem zh5(a:Str)(b:Int):decide ((Sum.inr a:Key)=Sum.inl b)=false:=_ab (λq=>nomatch q)
def zy(prog:Program)(w:World):PySem.KeyKind prog w Key where
 is:=z1s;hash:=zlv w;inj:=λv a b ha hb=>by
  rcases zS ha with⟨i,t,rfl,rfl⟩ | ⟨x,t,rfl,rfl⟩
  ·rcases zS hb with⟨j,u,rfl,e⟩ | ⟨y,u,rfl,e⟩;·injection e with e1 _;rw[e1]
   ·exact nomatch e
  ·rcases zS hb with⟨j,u,rfl,e⟩ | ⟨y,u,rfl,e⟩;·exact nomatch e
   ·injection e with e1 _;rw[e1]
 byValue:=λk v h=>by rcases zS h with⟨i,t,rfl,rfl⟩ | ⟨x,t,rfl,rfl⟩<;>rfl
 pyHash:=λhv h=>by
  rcases zS hv with⟨i,t,rfl,rfl⟩ | ⟨x,t,rfl,rfl⟩;·exact wpAny_pyHash_int h
  ·exact wpAny_pyHash_str h
 eqBool:=λhu hv h=>by
  rcases zS hu with⟨i,t,rfl,rfl⟩ | ⟨x,t,rfl,rfl⟩
  ·rcases zS hv with⟨j,u,rfl,rfl⟩ | ⟨y,u,rfl,rfl⟩;·rw[zio]at h;exact _du h
   ·rw[zgZ]at h;exact SeqAt.EqAt.int_str i t y u _ _ _ _ h
  ·rcases zS hv with⟨j,u,rfl,rfl⟩ | ⟨y,u,rfl,rfl⟩;·rw[zh5]at h;exact SeqAt.EqAt.str_int x t j u _ _ _ _ h
   ·rw[ziw]at h;exact wpAny_eqBool_str h
 «strs» := λk x t v h=>by
  rcases zS h with⟨i,u,rfl,e⟩ | ⟨y,u,rfl,e⟩;·exact nomatch e
  ·injection e with e1 _;subst e1;cases v<;>rfl
theorem z1B(prog:Program)(w:World)(k:Key)(v:Value):(zy prog w).is k v=z1s k v:=rfl
theorem z5m(prog:Program)(w:World)(i:Int)(t:Tok):(zy prog w).is (.inl i) (.int i t)=true:=z8R i t
theorem z0r(prog:Program)(w:World)(x:Str)(t:Tok):(zy prog w).is (.inr x) (.str x t)=true:=jA x t
inductive V where | non | bl (b:Bool) | int (i:Int) | str (x:Str) | byt (b:Array UInt8) | flt (b:UInt64) | ref (a:Addr) | ty (n:String) deriving DecidableEq
def yg:V->Value->Prop
 | .non,u=>u=Value.none | .bl b,u=>u=Value.bool b | .int i,u=>∃t,u=Value.int i t | .str x,u=>∃t,u=Value.str x t | .byt b,u=>∃t,u=Value.bytes b t | .flt b,u=>∃t,u=Value.float b t | .ref a,u=>u=Value.ref a | .ty n,u=>u=Value.type n
abbrev yd:List V->List Value->Prop:=Paired yg
theorem yd.length{xs:List V}{us:List Value}(r:yd xs us):xs.length=us.length:=_cw r
theorem yd.get:∀{xs:List V} {us:List Value} {i:Nat} {x:V},yd xs us->xs[i]? = some x->∃u,us[i]? = some u/\yg x u
 | _,_,_,_,.nil,e=>by simp at e | _,_,0,_,.cons r _,e=>by simp at e;subst e;exact⟨_,rfl,r⟩ | _,_,i+1,x,.cons _ t,e=>by
  obtain⟨u,h1,h2⟩:=yd.get (i:=i) (x:=x) t (by simpa using e);exact⟨u,by simpa using h1,h2⟩
theorem yd.set{x:V}{u:Value}(r:yg x u):∀{xs:List V}{us:List Value}(i:Nat),yd xs us->yd (xs.set i x) (us.set i u)
 | _,_,_,.nil=>.nil | _,_,0,.cons _ t=>.cons r t | _,_,i+1,.cons q t=>.cons q (yd.set r i t)
theorem yd.append:∀{xs ys:List V}{us ws:List Value},yd xs us->yd ys ws->yd (xs++ys) (us++ws)
 | _,_,_,_,.nil,s=>s | _,_,_,_,.cons r t,s=>.cons r (yd.append t s)
theorem yd.take:∀{xs:List V}{us:List Value}(n:Nat),yd xs us->yd (xs.take n) (us.take n)
 | _,_,0,_=>.nil | _,_,_+1,.nil=>.nil | _,_,n+1,.cons r t=>.cons r (yd.take n t)
theorem yd.drop:∀{xs:List V}{us:List Value}(n:Nat),yd xs us->yd (xs.drop n) (us.drop n)
 | _,_,0,r=>r | _,_,_+1,.nil=>.nil | _,_,n+1,.cons _ t=>yd.drop n t
def z8r:Option V->Option Value->Prop
 | some v,some u=>yg v u | none,none=>True | _,_=>False
def KV{κ:Type}:List (κ×V)->List (κ×Value)->Prop:=Paired λ(p:κ×V)(q:κ×Value)=>p.1=q.1/\yg p.2 q.2
def kV:Key->V
 | .inl i=>.int i | .inr x=>.str x
inductive HO where | lst (xs:List V) | tup (xs:List V) | dK (kvs:List (Key×V)) | dT (kvs:List (List Key×V)) | set (S:Int->Bool)(n:Nat) | ins (C dx:Addr)(fs:List (Str×V)) | own (x:Addr) | xd (fs:List (Str×V)) | met (f x:Addr) | rng (lo hi:Int) | frz (o:Obj)(u:HO) | tbl (ps:Array Value) | ext (φ:Heap->Prop)
abbrev Hp:=Addr->Option HO
def upd(H:Hp)(a:Addr)(o:HO):Hp:=λb=>if b=a then some o else H b
theorem zC{H:Hp}{a:Addr}{o:HO}:upd H a o a=some o:=by unfold upd;rw[_f rfl]
theorem zn{H:Hp}{a b:Addr}{o:HO}(h:b≠a):upd H a o b=H b:=by unfold upd;rw[_i h]
theorem z99{H:Hp}{a:Addr}{o u:HO}:upd (upd H a o) a u=upd H a u:=by funext b;unfold upd;split<;>rfl
theorem ziZ{H:Hp}{a b:Addr}{o u:HO}(h:H a=some o)(h':H b=some u)(d:o≠u):a≠b:=by intro e;subst e;rw[h]at h';exact d (_E h')
theorem ym{H:Hp}{a b:Addr}{o:HO}(h:H a=some o)(h':H b=none):a≠b:=by intro e;subst e;rw[h]at h';cases h'
def zbi(h:Heap)(a:Addr)(items:Array Value):Prop:=∃o,h.get? a=some o/\o.cls=.type "tuple"/\o.dict=none/\∃n,o.data=.seq items n
theorem zbi.tup{h:Heap}{a:Addr}{items:Array Value}(x:zbi h a items):IsTup h a items:=let ⟨o,e,c,_,r⟩:=x;⟨o,e,c,r⟩
theorem zbi.new(h:Heap)(items:Array Value):zbi (h.push {cls:=.type "tuple",data:=.seq items}) h.objs.size items:=⟨_,_g _ rfl,rfl,rfl,_,rfl⟩
theorem zbi.lt{h:Heap}{a:Addr}{items:Array Value}(x:zbi h a items):a<h.objs.size:=x.tup.lt
section
variable (P:Program)(w:World)
def yq(H:Hp)(h:Heap)(a:Addr):HO->Prop
 | .lst xs=>xs.length<=sizeLine/\∃(its:List Value)(n:Nat),yd xs its/\h.get? a=some {cls:=.type "list",data:=.seq its.toArray n} | .tup xs=>xs.length<=sizeLine/\∃its:List Value,yd xs its/\zbi h a its.toArray | .dK kvs=>kvs.length<=sizeLine/\(a==sysModules)=false/\∃vs,KV kvs vs/\h.DictOf (zy P w) a vs | .dT kvs=>kvs.length<=sizeLine/\(a==sysModules)=false/\∃xs:List (List Key×Addr×Value), Paired (λ(p:List Key×V)(q:List Key×Addr×Value)=>p.1=q.1/\H q.2.1=some (.tup (p.1.map kV))/\yg p.2 q.2.2) kvs xs/\ ∃o es ep,h.get? a=some o/\o.ExactDict/\o.data=.dict es ep/\es.toList=xs.map (entryOfKey (tupleKind (zy P w)))/\(xs.map (·.1)).Nodup | .set S n=>h.SetOf (intKind P w) a S n | .ins C dx fs=>H dx=some (.own a)/\fs.length<=1000/\dx≠a/\h.get? a=some (W.instObj C dx)/\ ∃mA,h.Ns1 dx mA/\(∀f,z8r (fs.lookup f) (mA f))/\PySem.Within mA (fs.map (·.1)) | .own _=>∃o,h.get? a=some o | .xd fs=>∃mA,h.Ns1 a mA/\∀f,z8r (fs.lookup f) (mA f) | .rng lo hi=>∃t u v,h.get? a=some {cls:=.type "range",data:=.fields #[.int lo t,.int hi u,.int 1 v]} | .frz o u=>h.get? a=some o/\yq H h a u | .tbl ps=>h.get? a=some {cls:=.none,data:=.fields ps} | .met f x=>h.get? a=some (W.methodObj (.ref f) (.ref x)) | .ext φ=>φ h/\(∃o,h.get? a=some o)/\∀h1 h2:Heap,φ h1->(∀o,h1.get? a=some o->h2.get? a=some o)->φ h2
def HOk(H:Hp)(h:Heap):Prop:=∀a o,H a=some o->yq P w H h a o
end
section
variable {P:Program}{w:World}{H H':Hp}{h h':Heap}{a:Addr}{o:HO}
theorem yq.lt(x:yq P w H h a o):a<h.objs.size:=by cases o with
 | lst xs=>obtain⟨_,_,_,_,e⟩:=x;exact _l e | tup xs=>obtain⟨_,_,_,p⟩:=x;exact p.lt | dK kvs=>obtain⟨_,_,_,_,o,_,_,e,_⟩:=x;exact _l e | dT kvs=>obtain⟨_,_,_,_,o,_,_,e,_⟩:=x;exact _l e | set S n=>obtain⟨o,_,_,_,e,_⟩:=x;exact _l e | ins C dx fs=>obtain⟨_,_,_,e,_⟩:=x;exact _l e | own y=>obtain⟨_,e⟩:=x;exact _l e | xd fs=>obtain⟨_,⟨_,_,_,e,_⟩,_⟩:=x;exact _l e | rng lo hi=>obtain⟨_,_,_,e⟩:=x;exact _l e | frz ob u=>obtain⟨e,_⟩:=x;exact _l e | tbl ps=>exact _l (show h.get? a=some _ from x) | met f y=>exact _l (show h.get? a=some _ from x) | ext φ=>obtain⟨_,⟨_,e⟩,_⟩:=x;exact _l e
theorem Paired.mapP{α β:Type}{F G:α->β->Prop}:∀{l₁:List α}{l₂:List β},Paired F l₁ l₂->(∀a b,F a b->G a b)->Paired G l₁ l₂
 | _,_,.nil,_=>.nil | _,_,.cons r t,f=>.cons (f _ _ r) (Paired.mapP t f)
theorem yq.stay(x:yq P w H h a o)(k:∀b u,(b=a\/H b=some (.own a))->h.get? b=some u->h'.get? b=some u) (ho:∀b,H b=some (.own a)->H' b=some (.own a))(ht:∀b xs,H b=some (.tup xs)->H' b=some (.tup xs)):yq P w H' h' a o:=by induction o with
 | lst xs=>obtain⟨z,its,n,r,e⟩:=x;exact⟨z,its,n,r,k _ _ (.inl rfl) e⟩ | tup xs=>obtain⟨z,its,r,ob,e,c⟩:=x;exact⟨z,its,r,ob,k _ _ (.inl rfl) e,c⟩ | dK kvs=>obtain⟨z,y,vs,r,ob,es,ep,e,c⟩:=x;exact⟨z,y,vs,r,ob,es,ep,k _ _ (.inl rfl) e,c⟩ | dT kvs=>
  obtain⟨z,y,xs,r,ob,es,ep,e,c⟩:=x;exact⟨z,y,xs,Paired.mapP r λp q z=>⟨z.1,ht _ _ z.2.1,z.2.2⟩,ob,es,ep,k _ _ (.inl rfl) e,c⟩ | set S n=>obtain⟨ob,es,ep,t,e,c⟩:=x;exact⟨ob,es,ep,t,k _ _ (.inl rfl) e,c⟩ | ins C dx fs=>
  obtain⟨d,z,ne,e,mA,⟨od,es,ep,e2,c⟩,r⟩:=x;exact⟨ho _ d,z,ne,k _ _ (.inl rfl) e,mA,⟨od,es,ep,k _ _ (.inr d) e2,c⟩,r⟩ | own y=>obtain⟨ob,e⟩:=x;exact⟨ob,k _ _ (.inl rfl) e⟩ | xd fs=>obtain⟨mA,⟨od,es,ep,e,c⟩,r⟩:=x;exact⟨mA,⟨od,es,ep,k _ _ (.inl rfl) e,c⟩,r⟩ | rng lo hi=>obtain⟨t,u,v,e⟩:=x;exact⟨t,u,v,k _ _ (.inl rfl) e⟩ | frz ob u ih=>obtain⟨e,q⟩:=x;exact⟨k _ _ (.inl rfl) e,ih q⟩ | tbl ps=>
  have e:h.get? a=some {cls:=.none,data:=.fields ps}:=x;show h'.get? a=some {cls:=.none,data:=.fields ps};exact k a _ (.inl rfl) e | met f y=>
  have e:h.get? a=some (W.methodObj (.ref f) (.ref y)):=x;show h'.get? a=some (W.methodObj (.ref f) (.ref y));exact k a _ (.inl rfl) e | ext φ=>obtain⟨p,⟨o,e⟩,st⟩:=x;exact⟨st _ _ p λo q=>k _ _ (.inl rfl) q,⟨o,k _ _ (.inl rfl) e⟩,st⟩
theorem HOk.lt(x:HOk P w H h)(e:H a=some o):a<h.objs.size:=(x a o e).lt
theorem HOk.fresh(x:HOk P w H h)(e:h.objs.size<=a):H a=none:=by cases q:H a with
 | none=>rfl | some u=>exact absurd (_v (x.lt q) e) (_aN _)
theorem HOk.kept(x:HOk P w H h)(k:∀b u,h.get? b=some u->h'.get? b=some u):HOk P w H h':=λa o e=> (x a o e).stay (λb u _ q=>k b u q) (λ_ q=>q) λ_ _ q=>q
theorem HOk.laid(x:HOk P w H h)(k:∀b u,h.get? b=some u->h'.get? b=some u)(hp:h.objs.size<=a)(new:yq P w (upd H a o) h' a o):HOk P w (upd H a o) h':=λb u e=>by
 have hn:=x.fresh hp;by_cases hb:b=a;·subst hb;rw[zC]at e;cases e;exact new
 ·rw[zn hb]at e;exact (x b u e).stay (λc v _ q=>k c v q) (λc q=>by rw[zn (ym q hn)];exact q) λc xs q=>by rw[zn (ym q hn)];exact q
end
def Rd(H:Hp)(a:Addr)(u:HO):Prop:=H a=some u\/∃o,H a=some (.frz o u)
theorem Rd.ok{P:Program}{w:World}{H:Hp}{h:Heap}{a:Addr}{u:HO}(r:Rd H a u)(x:HOk P w H h):yq P w H h a u:=by
 rcases r with r | ⟨o,r⟩;·exact x a u r
 ·obtain⟨_,q⟩:=x a _ r;exact q
def Mut:Option HO->Prop
 | some (.lst _)=>True | some (.dK _)=>True | some (.dT _)=>True | some (.set _ _)=>True | some (.ins _ _ _)=>True | some (.ext _)=>True | _=>False
section
variable {P:Program}{w:World}{H:Hp}{h h':Heap}{x e:Addr}{o':HO}
theorem HOk.write(ok:HOk P w H h)(mu:Mut (H x))(he:e=x\/H e=some (.own x))(k:∀b u,b≠e->h.get? b=some u->h'.get? b=some u)(heo:∃u,h'.get? e=some u) (new:yq P w (upd H x o') h' x o'):HOk P w (upd H x o') h':=λb u q=>by
 have nown:∀c y,H c=some (.own y)->c≠x:=λc y r z=>by subst z;rw[r]at mu;exact mu
 have ntup:∀c xs,H c=some (.tup xs)->c≠x:=λc xs r z=>by subst z;rw[r]at mu;exact mu
 by_cases hb:b=x;·subst hb;rw[zC]at q;cases q;exact new
 ·rw[zn hb]at q;by_cases hbe:b=e
  ·have q':H b=some (.own x):=by
    rcases he with z | z;·exact absurd (hbe.trans z) hb
    ·rw[hbe];exact z
   rw[q]at q';cases q';obtain⟨v,hv⟩:=heo;exact⟨v,by rw[hbe];exact hv⟩
  ·refine (ok b u q).stay (λc v hc r=>k c v ?_ r) (λc r=>by rw[zn (nown c b r)];exact r) λc xs r=>by rw[zn (ntup c xs r)];exact r
   rcases hc with rfl | hc;·exact hbe
   ·rintro rfl;rcases he with z | z;·exact nown c b hc z
    ·rw[hc]at z;cases z;exact hb rfl
end
structure Un(fs ex:List Addr)(H H':Hp)(h h':Heap):Prop where
 keep:∀b o,h.get? b=some o->H b=none->b∉fs->b∉ex->h'.get? b=some o
 slot:∀b o,h.get? b=some o->H b=none->b∈fs->b∉ex->∃sl,h'.get? b=some {o with slots:=sl}
 free:∀b o,h.get? b=some o->H b=none->b∉ex->H' b=none
 there:∀b o,h.get? b=some o->b∉ex->∃o',h'.get? b=some o'
 tups:∀b xs,H b=some (.tup xs)->H' b=some (.tup xs)
 frzs:∀b o u,H b=some (.frz o u)->H' b=some (.frz o u)
 tbls:∀b ps,H b=some (.tbl ps)->∃more,H' b=some (.tbl (ps++more))
section
variable {fs fs' ex ex':List Addr}{H H1 H2:Hp}{h h1 h2 h':Heap}{a x e:Addr}{o:HO}
theorem Un.any(u:Un fs ex H H1 h h1){b:Addr}{ob:Obj}(q:h.get? b=some ob)(n:H b=none)(hx:b∉ex):∃sl,h1.get? b=some {ob with slots:=sl}:=by
 by_cases hb:b∈fs;·exact u.slot b ob q n hb hx
 ·exact⟨ob.slots,u.keep b ob q n hb hx⟩
theorem Un.kept(k:∀b u,h.get? b=some u->h'.get? b=some u):Un fs ex H H h h':= ⟨λb ob q _ _ _=>k b ob q,λb ob q _ _ _=>⟨ob.slots,k b ob q⟩,λ_ _ _ n _=>n,λb ob q _=>⟨ob,k b ob q⟩,λ_ _ q=>q,λ_ _ _ q=>q,λ_ ps q=>⟨#[],by rw[q];simp⟩⟩
theorem Un.refl:Un fs ex H H h h:=Un.kept λ_ _ q=>q
theorem Un.laid(k:∀b u,h.get? b=some u->h'.get? b=some u)(hp:h.objs.size<=a)(hn:H a=none):Un fs ex H (upd H a o) h h' where
 keep:=λb u q _ _ _=>k b u q;slot:=λb u q _ _ _=>⟨u.slots,k b u q⟩;free:=λb u q n _=>by rw[zn (_t (_v (_l q) hp))];exact n
 there:=λb u q _=>⟨u,k b u q⟩;tups:=λb xs q=>by rw[zn (ym q hn)];exact q
 frzs:=λb u xs q=>by rw[zn (ym q hn)];exact q
 tbls:=λb ps q=>⟨#[],by rw[zn (ym q hn),q];simp⟩
theorem Un.write(mu:Mut (H x))(he:e=x\/H e=some (.own x))(k:∀b u,b≠e->h.get? b=some u->h'.get? b=some u)(heo:∃u,h'.get? e=some u):Un fs ex H (upd H x o) h h':=by
 have hx:∀b,H b=none->b≠x:=λb n z=>by subst z;rw[n]at mu;exact mu
 have hb:∀b,H b=none->b≠e:=λb n z=>by
  subst z;rcases he with r | r;·exact hx b n r
  ·rw[n]at r;cases r
 have hm:∀b u,H b=some u->¬ Mut (some u)->b≠x:=λb u q nm z=>by subst z;rw[q]at mu;exact nm mu
 refine⟨λb u q n _ _=>k b u (hb b n) q,λb u q n _ _=>⟨u.slots,k b u (hb b n) q⟩,λb u q n _=>by rw[zn (hx b n)];exact n,λb u q _=>?_, λb xs q=>by rw[zn (hm b _ q λz=>z)];exact q,λb u xs q=>by rw[zn (hm b _ q λz=>z)];exact q,λb ps q=>⟨#[],by rw[zn (hm b _ q λz=>z),q];simp⟩⟩;by_cases hbe:b=e;·subst hbe;exact heo
 ·exact⟨u,k b u hbe q⟩
end
def trk(h:Heap)(H:Hp):List Addr:=(List.range h.objs.size).filter λa=>(H a).isSome
def zc7(h:Heap)(H:Hp):Heap:=W.hideAll h (trk h H)
theorem z8w(h:Heap)(H:Hp):(zc7 h H).objs.size=h.objs.size:=W.hideAll_size _ _
theorem zc6{h:Heap}{H:Hp}{b:Addr}{o:Obj}(e:h.get? b=some o)(n:H b=none):(zc7 h H).get? b=some o:= W.hideAll_get _ e λhm=>by
  have q:(H b).isSome=true:=(_bR.mp hm).2;rw[n]at q;simp at q
theorem zga{h:Heap}{H:Hp}{b:Addr}{o:Obj}(e:(zc7 h H).get? b=some o):h.get? b=some o/\H b=none:=by
 have e':h.get? b=some o:=W.of_hideAll (trk h H) e;refine⟨e',?_⟩;cases q:H b with
 | none=>rfl | some x=>
  have hm:b∈trk h H:=_bR.mpr ⟨_Q.mpr (_l e'),by simp[q]⟩;have z:(zc7 h H).get? b=none:=W.hideAll_none (trk h H) hm;rw[z]at e;cases e
def zfI(g h:Heap)(L:Addr):List (Addr×Obj):=(List.range h.objs.size).filterMap λa=>if a=L\/(g.get? a).isSome=true then none else (h.get? a).map λo=>(a,o)
def qu(g h:Heap)(L d:Addr):List (Addr×Obj):=(zfI g h L).filter λp=>decide (p.1≠d)
structure Mod(K:W.Frag)(mg:Str->Option Value)(base:Heap):Prop where
 kin:K.In base
 glob:base.Ns mainGlobals mg
 blt:∃mb,base.Ns builtinsNs mb/\∀x:Str,x≠"__name__"->mb x=bootBuiltins x
 nolimit:base.NoLimit
structure Cx where
 prog:Program
 w:World
 K:W.Frag
 mg:Str->Option Value
 base:Heap
 A:Around
 N:List Str
 s₀:Shared
 H₀:Hp
 env:Env
 outer:List Env
 stack:List Env
 ex:List Addr
 fn:Str->Bool
 calm:Bool
 pn:List (Addr×Obj)
 xe:Value->Shared->Prop
def frs(l:List Env):List Addr:=l.filterMap (·.frame)
abbrev Cx.fs(X:Cx):List Addr:=frs X.outer
def Vis(sc:Scope)(x:Str):Prop:=sc.names.lookup x=some .local\/sc.names.lookup x=some .cell\/sc.names.lookup x=some .free
def Loc(sc:Scope)(x:Str):Prop:=sc.names.lookup x=some .local\/sc.names.lookup x=some .cell
def zl5(env:Env)(h:Heap)(m:Str->Option Value)(x:Str)(u:Value):Prop:= (env.kindOf x=some .local/\m x=some u)\/((env.kindOf x=some .cell\/env.kindOf x=some .free)/\∃c,env.cells.lookup x=some c/\h.IsCell c (some u))
structure Cx.Ok(X:Cx):Prop where
 mod:Mod X.K X.mg X.base
 kind:X.env.scope.kind=.function
 glob:X.env.globals=mainGlobals
 blt:X.env.builtins=builtinsNs
 above:X.s₀.heap.objs.size<=X.env.locals
 inj:∀x y c,X.env.cells.lookup x=some c->X.env.cells.lookup y=some c->x=y
 has:∀x,(X.env.kindOf x=some .cell\/X.env.kindOf x=some .free)->∃c,X.env.cells.lookup x=some c
 cab:∀x c,X.fn x=true->X.env.cells.lookup x=some c->X.s₀.heap.objs.size<=c
 hd:X.calm=true->X.A.handled=none
 frames:X.A.frames=some X.stack
 stk:X.stack=X.outer\/(X.stack=X.env::X.outer/\X.env.frame=some X.env.locals)
 exf:∀b∈X.ex,b≠X.env.locals/\∀x c,X.env.cells.lookup x=some c->c≠b
 bs:∀b o,X.base.get? b=some o->X.s₀.heap.get? b=some o/\X.H₀ b=none
 bsz:X.base.objs.size<=X.s₀.heap.objs.size
 noex:∀b o,X.base.get? b=some o->b∉X.ex
 exfs:∀b∈X.ex,b∉X.fs
 funs:X.s₀.heap.FunFrames X.base X.outer
 frf:∀b∈X.fs,X.H₀ b=none
structure Inv(X:Cx)(pins:List (Addr×Obj))(O:List (Option V))(H:Hp)(s:Shared):Prop where
 ok:X.Ok
 os:s.os=X.s₀.os
 bare:AllBare s.gens
 base:Un X.fs X.ex X.H₀ H X.s₀.heap s.heap
 loc:∃m,s.heap.Ns X.env.locals m/\∀(i:Nat)(x:Str)(v:V),X.N[i]? = some x->O[i]? = some (some v)->Vis X.env.scope x->∃u,yg v u/\zl5 X.env s.heap m x u
 cell:∀x c,X.env.cells.lookup x=some c->∃v,s.heap.IsCell c v
 free:H X.env.locals=none
 freeC:∀x c,X.env.cells.lookup x=some c->H c=none
 pin:∀p∈X.pn++pins,s.heap.get? p.1=some p.2/\H p.1=none/\p.1≠X.env.locals/\p.1∉X.fs/\∀v,p.2.data≠.cell v
 hok:HOk X.prog X.w H s.heap
 len:O.length=X.N.length
section
variable {X:Cx}{pins:List (Addr×Obj)}{O:List (Option V)}{H H':Hp}{s:Shared}{h':Heap}
theorem Cx.Ok.nofr(ok:X.Ok){b:Addr}{o:Obj}(e:X.base.get? b=some o):b∉X.fs:=λhb=>by
 have:=(ok.funs.mem hb).1;rw[e]at this;cases this
theorem Inv.bs(I:Inv X pins O H s):∀b o,X.base.get? b=some o->s.heap.get? b=some o/\H b=none:=λb o e=> ⟨I.base.keep b o (I.ok.bs b o e).1 (I.ok.bs b o e).2 (I.ok.nofr e) (I.ok.noex b o e),I.base.free b o (I.ok.bs b o e).1 (I.ok.bs b o e).2 (I.ok.noex b o e)⟩
theorem Inv.bk(I:Inv X pins O H s):∀b o,X.base.get? b=some o->s.heap.get? b=some o:=λb o e=>(I.bs b o e).1
theorem Inv.mod(I:Inv X pins O H s):Mod X.K X.mg X.base:=I.ok.mod
theorem Inv.kIn(I:Inv X pins O H s):X.K.In s.heap:=I.ok.mod.kin.keeps I.bk
theorem Inv.fr(I:Inv X pins O H s):∃m,Fr X.base X.env.locals s.heap m:= let ⟨m,hn,_⟩:=I.loc;⟨m,hn,I.bk,_ad I.ok.bsz I.ok.above⟩
theorem Inv.lt(I:Inv X pins O H s):X.env.locals<s.heap.objs.size:=let ⟨_,hn,_⟩:=I.loc;hn.lt
theorem Inv.sz(I:Inv X pins O H s):X.s₀.heap.objs.size<=s.heap.objs.size:=_ad I.ok.above (_b4 I.lt)
theorem Inv.nofs(I:Inv X pins O H s){a:Addr}(h:s.heap.objs.size<=a):a∉X.fs:=λhb=>by
 obtain⟨_,o,ho,_⟩:=I.ok.funs.mem hb;exact absurd (_v (_l ho) (_ad I.sz h)) (_aN _)
theorem Inv.cne(I:Inv X pins O H s):∀x c,X.env.cells.lookup x=some c->c≠X.env.locals:=λx c e z=>by
 obtain⟨v,o,ho,hd⟩:=I.cell x c e;obtain⟨m,⟨o',es,ep,ho',hd',_⟩,_⟩:=I.loc;rw[z,ho']at ho;cases ho;rw[hd']at hd;cases hd
theorem Inv.funs(I:Inv X pins O H s):s.heap.FunFrames X.base X.outer:=by
 have all:∀(l:List Env),(∀b∈frs l,b∈X.fs)->X.s₀.heap.FunFrames X.base l->s.heap.FunFrames X.base l:=by
  intro l;induction l with
  | nil=>intro _ _;trivial | cons env r ih=>
   intro hs hl;obtain⟨hk,⟨L,o,hf,hn,ho,hd⟩,hr⟩:=hl;have hL:L∈X.fs:=hs L (by unfold frs;rw[_bK,hf];exact _K);obtain⟨sl,e⟩:=I.base.slot L o ho (I.ok.frf L hL) hL λz=>I.ok.exfs L z hL;exact⟨hk,⟨L,_,hf,hn,e,hd⟩,ih (λb hb=>hs b (by unfold frs;rw[_bK,hf];exact _C _ hb)) hr⟩
 exact all X.outer (λ_ hb=>hb) I.ok.funs
theorem Inv.stack(I:Inv X pins O H s):s.heap.FunFrames X.base X.stack:=by
 rcases I.ok.stk with e | ⟨e,hf⟩;·rw[e];exact I.funs
 ·rw[e];obtain⟨m,hn,_⟩:=I.loc;refine .cons (by rw[I.ok.kind];decide) hf hn ?_ I.funs;exact Heap.get?_none_of_le (_ad I.ok.bsz I.ok.above)
theorem Inv.stkSub(I:Inv X pins O H s):∀b∈frs X.stack,b∈X.env.locals::X.fs:=λb hb=>by
 rcases I.ok.stk with e | ⟨e,hf⟩;·rw[e]at hb;exact _C _ hb
 ·rw[e]at hb;unfold frs at hb;rw[_bK,hf]at hb;exact hb
theorem Inv.stkFree(I:Inv X pins O H s):∀b∈frs X.stack,H b=none:=λb hb=>by
 rcases _p.mp (I.stkSub b hb) with e | hb;·rw[e];exact I.free
 ·obtain⟨_,o,ho,_⟩:=I.ok.funs.mem hb;exact I.base.free b o ho (I.ok.frf b hb) λz=>I.ok.exfs b z hb
theorem Inv.step{g':Array GenState}{t':Nat}{d':Drawn}{ch:List Addr}(I:Inv X pins O H s) (hch:∀b∈ch,(b∈X.ex\/X.s₀.heap.objs.size<=b)/\b≠X.env.locals/\(∀x c,X.env.cells.lookup x=some c->c≠b)/\∀p∈X.pn++pins,p.1≠b) (keep:∀b o,b≠X.env.locals->b∉X.fs->b∉ch->s.heap.get? b=some o->H b=none->h'.get? b=some o) (slot:∀b o,b≠X.env.locals->b∈X.fs->b∉ch->s.heap.get? b=some o->H b=none->∃sl,h'.get? b=some {o with slots:=sl})(free:∀b o,b∉ch->s.heap.get? b=some o->H b=none->H' b=none) (there:∀b o,b∉ch->s.heap.get? b=some o->∃o',h'.get? b=some o') (tups:∀b xs,H b=some (.tup xs)->H' b=some (.tup xs))(frzs:∀b o u,H b=some (.frz o u)->H' b=some (.frz o u))(tbls:∀b ps,H b=some (.tbl ps)->∃more,H' b=some (.tbl (ps++more))) (ns:∀m,s.heap.Ns X.env.locals m->h'.Ns X.env.locals m)(hok:HOk X.prog X.w H' h')(hg:AllBare g'): Inv X pins O H' {s with heap:=h',gens:=g',drawn:=d',toks:=t'}:=by
 have neL:∀b o,X.s₀.heap.get? b=some o->b≠X.env.locals:=λb o e=>_t (_v (_l e) I.ok.above);have neC:∀b o,X.s₀.heap.get? b=some o->b∉X.ex->b∉ch:=λb o e hx hb=>by
  rcases (hch b hb).1 with z | z;·exact hx z
  ·exact absurd (_v (_l e) z) (_aN _)
 have cellK:∀x c,X.env.cells.lookup x=some c->∀v,s.heap.IsCell c v->h'.IsCell c v:=λx c e v ⟨o,ho,hd⟩=>by
  have nch:c∉ch:=λz=>(hch c z).2.2.1 x c e rfl;by_cases hc:c∈X.fs
  ·obtain⟨sl,q⟩:=slot c o (I.cne x c e) hc nch ho (I.freeC x c e);exact⟨_,q,hd⟩
  ·exact⟨o,keep c o (I.cne x c e) hc nch ho (I.freeC x c e),hd⟩
 refine⟨I.ok,I.os,hg,⟨λb o e n hb hx=>?_,λb o e n hb hx=>?_,λb o e n hx=>?_,λb o e hx=>?_,λb xs e=>tups b xs (I.base.tups b xs e),λb o xs e=>frzs b o xs (I.base.frzs b o xs e),λb ps e=>?_⟩,?_,λx c e=>?_,?_,λx c e=>?_,λp hp=>?_,hok,I.len⟩;·exact keep b o (neL b o e) hb (neC b o e hx) (I.base.keep b o e n hb hx) (I.base.free b o e n hx)
 ·obtain⟨sl,e1⟩:=I.base.slot b o e n hb hx;obtain⟨sl',e2⟩:=slot b _ (neL b o e) hb (neC b o e hx) e1 (I.base.free b o e n hx);exact⟨sl',e2⟩
 ·obtain⟨o',e1⟩:=I.base.there b o e hx;exact free b o' (neC b o e hx) e1 (I.base.free b o e n hx)
 ·obtain⟨o',e1⟩:=I.base.there b o e hx;exact there b o' (neC b o e hx) e1
 ·obtain⟨m1,e1⟩:=I.base.tbls b ps e;obtain⟨m2,e2⟩:=tbls b _ e1;exact⟨m1++m2,by rw[e2,Array.append_assoc]⟩
 ·obtain⟨m,hn,hl⟩:=I.loc;refine⟨m,ns m hn,λi x v e1 e2 e3=>?_⟩;obtain⟨u,r,l⟩:=hl i x v e1 e2 e3;refine⟨u,r,?_⟩;rcases l with l | ⟨k,c,e,z⟩;·exact .inl l
  ·exact .inr ⟨k,c,e,cellK x c e _ z⟩
 ·obtain⟨v,z⟩:=I.cell x c e;exact⟨v,cellK x c e v z⟩
 ·obtain⟨m,⟨o,_,_,ho,_⟩,_⟩:=I.loc;exact free _ o (λz=>(hch _ z).2.1 rfl) ho I.free
 ·obtain⟨v,o,ho,hd⟩:=I.cell x c e;exact free c o (λz=>(hch c z).2.2.1 x c e rfl) ho (I.freeC x c e)
 ·obtain⟨e,n,ne,nf,d⟩:=I.pin p hp;have nch:p.1∉ch:=λz=>(hch p.1 z).2.2.2 p hp rfl;exact⟨keep p.1 p.2 ne nf nch e n,free p.1 p.2 nch e n,ne,nf,d⟩
theorem Inv.un {t':Nat} (I:Inv X pins O H s) (u:Un X.fs [] H H' s.heap h') (hok:HOk X.prog X.w H' h'):Inv X pins O H' {s with heap:=h',toks:=t'}:=by
 obtain⟨m,⟨o,es,ep,ho,r⟩,_⟩:=id I.loc;obtain⟨sl,hL⟩:=u.any ho I.free (by simp);exact I.step (g':=s.gens) (d':=s.drawn) (ch:=[]) (λ_ z=>nomatch z) (λb o _ hb _ e n=>u.keep b o e n hb (by simp)) (λb o _ hb _ e n=>u.slot b o e n hb (by simp)) (λb o _ e n=>u.free b o e n (by simp)) (λb o _ e=>u.there b o e (by simp)) u.tups u.frzs u.tbls (λm' hm=>by
  obtain⟨o',es',ep',ho',r'⟩:=hm;rw[ho]at ho';cases ho';exact⟨_,es',ep',hL,r'⟩) hok I.bare
theorem Inv.call{g':Array GenState}{t':Nat}{d':Drawn}{ch:List Addr}(I:Inv X pins O H s)(u:Un (frs X.stack) ch H H' s.heap h')(hok:HOk X.prog X.w H' h')(hg:AllBare g') (hch:∀b∈ch,(b∈X.ex\/X.s₀.heap.objs.size<=b)/\b≠X.env.locals/\(∀x c,X.env.cells.lookup x=some c->c≠b)/\∀p∈X.pn++pins,p.1≠b): Inv X pins O H' {s with heap:=h',gens:=g',drawn:=d',toks:=t'}:=by
 obtain⟨m,⟨o,es,ep,ho,r⟩,_⟩:=id I.loc;obtain⟨sl,hL⟩:=u.any ho I.free λz=>(hch _ z).2.1 rfl;exact I.step (ch:=ch) hch (λb o hL hb hc e n=>u.keep b o e n (λz=>(_p.mp (I.stkSub b z)).elim hL hb) hc) (λb o _ _ hc e n=>u.any e n hc) (λb o hc e n=>u.free b o e n hc) (λb o hc e=>u.there b o e hc) u.tups u.frzs u.tbls (λm' hm=>by
  obtain⟨o',es',ep',ho',r'⟩:=hm;rw[ho]at ho';cases ho';exact⟨_,es',ep',hL,r'⟩) hok hg
theorem Inv.turned {t':Nat} {it:Addr} (I:Inv X pins O H s) (k:∀b o,b≠it->s.heap.get? b=some o->h'.get? b=some o) (hn:H it=none) (hL:it≠X.env.locals) (h1:it∈X.ex\/X.s₀.heap.objs.size<=it) (h2:∀x c,X.env.cells.lookup x=some c->c≠it) (h3:∀p∈X.pn++pins,p.1≠it):Inv X pins O H {s with heap:=h',toks:=t'}:=by
 have nit:∀b u,H b=some u->b≠it:=λb u e z=>by rw[z,hn]at e;cases e
 refine I.step (g':=s.gens) (d':=s.drawn) (ch:=[it]) (λb hb=>?_) (λb o _ _ hc e _=>k b o (λz=>hc (by simp[z])) e) (λb o _ _ hc e _=>⟨o.slots,k b o (λz=>hc (by simp[z])) e⟩) (λ_ _ _ _ n=>n) (λb o hc e=>⟨o,k b o (λz=>hc (by simp[z])) e⟩) (λ_ _ e=>e) (λ_ _ _ e=>e) (λb ps e=>⟨#[],by rw[e];simp⟩) (λm hm=>?_) (λb u e=>?_) I.bare
 ·have e:b=it:=by simpa using hb
  subst e;exact⟨h1,hL,h2,h3⟩
 ·obtain⟨o,es,ep,ho,r⟩:=hm;exact⟨o,es,ep,k _ o (_a4 hL) ho,r⟩
 ·refine (I.hok b u e).stay (λc v hc q=>k c v ?_ q) (λ_ q=>q) λ_ _ q=>q;rcases hc with z | z;·rw[z];exact nit b u e
  ·exact nit c _ z
theorem Inv.tok (I:Inv X pins O H s) (t:Nat):Inv X pins O H {s with toks:=t}:=I.un (h':=s.heap) (t':=t) Un.refl I.hok
theorem Inv.kept{t':Nat}(I:Inv X pins O H s)(k:∀b u,s.heap.get? b=some u->h'.get? b=some u):Inv X pins O H {s with heap:=h',toks:=t'}:=I.un (Un.kept k) (I.hok.kept k)
theorem Inv.laid {a:Addr} {o:HO} {t':Nat} (I:Inv X pins O H s) (k:∀b u,s.heap.get? b=some u->h'.get? b=some u) (hp:s.heap.objs.size<=a) (new:yq X.prog X.w (upd H a o) h' a o): Inv X pins O (upd H a o) {s with heap:=h',toks:=t'}:=I.un (Un.laid k hp (I.hok.fresh hp)) (I.hok.laid k hp new)
theorem Inv.write {x e:Addr} {o:HO} {t':Nat} (I:Inv X pins O H s) (mu:Mut (H x)) (he:e=x\/H e=some (.own x)) (k:∀b u,b≠e->s.heap.get? b=some u->h'.get? b=some u) (heo:∃u,h'.get? e=some u) (new:yq X.prog X.w (upd H x o) h' x o):Inv X pins O (upd H x o) {s with heap:=h',toks:=t'}:=I.un (Un.write mu he k heo) (I.hok.write mu he k heo new)
theorem Inv.weak{O':List (Option V)}(I:Inv X pins O H s)(hl:O'.length=O.length)(w:∀(i:Nat) v,O'[i]? = some (some v)->O[i]? = some (some v)):Inv X pins O' H s:= ⟨I.ok,I.os,I.bare,I.base,let ⟨m,hn,hl'⟩:=I.loc;⟨m,hn,λi x v e1 e2 e3=>hl' i x v e1 (w i v e2) e3⟩,I.cell,I.free,I.freeC,I.pin,I.hok,hl.trans I.len⟩
theorem Inv.pins_of{pins':List (Addr×Obj)}(I:Inv X pins O H s)(h:∀p∈pins',s.heap.get? p.1=some p.2/\H p.1=none/\p.1≠X.env.locals/\p.1∉X.fs/\∀v,p.2.data≠.cell v):Inv X pins' O H s:= ⟨I.ok,I.os,I.bare,I.base,I.loc,I.cell,I.free,I.freeC,λp hp=>(_M.mp hp).elim (λz=>I.pin p (_aK _ z)) (h p),I.hok,I.len⟩
theorem z6J{N:List Str}(hN:N.Nodup){i j:Nat}{x:Str}(a:N[i]? = some x)(b:N[j]? = some x):i=j:=by
 obtain⟨h1,e1⟩:=_d.mp a;obtain⟨h2,e2⟩:=_d.mp b;exact (_aL hN).mp (e1.trans e2.symm)
theorem z0V{M:Model}{A:Around}{E:Value->Shared->Prop}{i:Nat}{x:Str}{v:V}{u:Value}{Q:Unit->Shared->Prop}(I:Inv X pins O H s)(hN:X.N.Nodup)(hi:X.N[i]? = some x)(hx:Loc X.env.scope x)(r:yg v u) (h:∀s',Inv X pins (O.set i (some v)) H s'->(∃a,Heap.SameBut a s.heap s'.heap/\(a=X.env.locals\/X.env.cells.lookup x=some a))->Q () s')(hf:X.fn x=true\/X.env.scope.names.lookup x=some .local:=by first | exact .inl rfl | exact .inr rfl | assumption):wpAny M A (storeName X.env x u) Q E s:=by
 obtain⟨m,hn,hl⟩:=id I.loc;have hcls:(X.env.scope.kind==.class||(X.env.scope.kind==.module&&X.env.locals != X.env.globals))=false:=by rw[I.ok.kind];rfl
 have hiO:i<O.length:=by rw[I.len];exact (_d.mp hi).1
 have cne:=I.cne;have tracked:∀{a:Addr}{h':Heap},(∃o,s.heap.get? a=some o/\H a=none)->Heap.SameBut a s.heap h'->HOk X.prog X.w H h':=λ{a h'} ha hs b ob e=>by
  obtain⟨_,_,hfree⟩:=ha;refine (I.hok b ob e).stay (λc w' hc q=>(hs.2 c ?_).trans q) (λ_ q=>q) λ_ _ q=>q;rintro rfl;rcases hc with rfl | hc;·rw[hfree]at e;cases e
  ·rw[hfree]at hc;cases hc
 rcases hx with hk | hk
 ·refine wpAny_storeName_local hk hn (λh' hn' hs=>?_) hcls;obtain⟨oL,_,_,hoL,_⟩:=id hn;refine h _ ⟨I.ok,I.os,I.bare,⟨λb o e n hb hx=>?_,λb o e n hb hx=>?_,I.base.free,λb o e hx=>?_,I.base.tups,I.base.frzs,I.base.tbls⟩,⟨_,hn',λj y v' e1 e2 e3=>?_⟩,λy c e=>?_,I.free,I.freeC,λp hp=>?_,tracked ⟨oL,hoL,I.free⟩ hs,by simpa using I.len⟩ ⟨_,hs,.inl rfl⟩;·exact (hs.2 b (_t (_v (_l e) I.ok.above))).trans (I.base.keep b o e n hb hx)
  ·obtain⟨sl,e1⟩:=I.base.slot b o e n hb hx;exact⟨sl,(hs.2 b (_t (_v (_l e) I.ok.above))).trans e1⟩
  ·obtain⟨o',e1⟩:=I.base.there b o e hx;exact⟨o',(hs.2 b (_t (_v (_l e) I.ok.above))).trans e1⟩
  ·by_cases hj:j=i
   ·subst hj;rw[hi]at e1;cases e1;rw[_Z hiO]at e2;cases e2;exact⟨u,r,.inl ⟨hk,by simp⟩⟩
   ·rw[_L (_a4 hj)]at e2;obtain⟨u',r',q⟩:=hl j y v' e1 e2 e3;refine⟨u',r',?_⟩;rcases q with⟨k,e⟩ | ⟨k,c,e,z⟩
    ·refine .inl ⟨k,?_⟩;have:y≠x:=λe=>hj (z6J hN e1 (e ▸ hi));simp[this,e]
    ·exact .inr ⟨k,c,e,z.sameBut hs (cne y c e)⟩
  ·obtain⟨w',z⟩:=I.cell y c e;exact⟨w',z.sameBut hs (cne y c e)⟩
  ·obtain⟨e,n,ne,nf,d⟩:=I.pin p hp;exact⟨(hs.2 p.1 ne).trans e,n,ne,nf,d⟩
 ·have hfn:X.fn x=true:=by
   rcases hf with z | z;·exact z
   ·rw[z]at hk;cases hk
  obtain⟨c,hc⟩:=I.ok.has x (.inl hk);obtain⟨w',z⟩:=I.cell x c hc;refine wpAny_storeName_cell I.ok.kind hk hc z (λh' hc' hs=>?_);obtain⟨oc,hoc,hocd⟩:=id z;refine h {s with heap:=h'} ⟨I.ok,I.os,I.bare,⟨λb o e n hb hx=>?_,λb o e n hb hx=>?_,I.base.free,λb o e hx=>?_,I.base.tups,I.base.frzs,I.base.tbls⟩,⟨m,hn.sameBut hs (_a4 (cne x c hc)),λj y v' e1 e2 e3=>?_⟩,λy c' e=>?_,I.free,I.freeC,λp hp=>?_,tracked ⟨oc,hoc,I.freeC x c hc⟩ hs,by simpa using I.len⟩ ⟨c,hs,.inr hc⟩;·exact (hs.2 b (_t (_v (_l e) (I.ok.cab x c hfn hc)))).trans (I.base.keep b o e n hb hx)
  ·obtain⟨sl,e1⟩:=I.base.slot b o e n hb hx;exact⟨sl,(hs.2 b (_t (_v (_l e) (I.ok.cab x c hfn hc)))).trans e1⟩
  ·obtain⟨o',e1⟩:=I.base.there b o e hx;exact⟨o',(hs.2 b (_t (_v (_l e) (I.ok.cab x c hfn hc)))).trans e1⟩
  ·by_cases hj:j=i
   ·subst hj;rw[hi]at e1;cases e1;rw[_Z hiO]at e2;cases e2;exact⟨u,r,.inr ⟨.inl hk,c,hc,hc'⟩⟩
   ·rw[_L (_a4 hj)]at e2;obtain⟨u',r',q⟩:=hl j y v' e1 e2 e3;refine⟨u',r',?_⟩;rcases q with q | ⟨k,c',e,z'⟩;·exact .inl q
    ·refine .inr ⟨k,c',e,z'.sameBut hs ?_⟩;rintro rfl;exact hj (z6J hN e1 (I.ok.inj _ _ _ e hc ▸ hi))
  ·by_cases hcc:c'=c;·subst hcc;exact⟨_,hc'⟩
   ·obtain⟨w2,z2⟩:=I.cell y c' e;exact⟨w2,z2.sameBut hs hcc⟩
  ·obtain⟨e,n,ne,nf,d⟩:=I.pin p hp;refine⟨(hs.2 p.1 ?_).trans e,n,ne,nf,d⟩;intro q;rw[q,hoc]at e;have q':oc=p.2:=_E e;exact d w' (by rw[<- q'];exact hocd)
theorem jy{M:Model}{A:Around}{E:Value->Shared->Prop}{i:Nat}{x:Str}{v:V}{u:Value}{Q:Unit->Shared->Prop}(I:Inv X pins O H s)(hN:X.N.Nodup)(hi:X.N[i]? = some x)(hx:Loc X.env.scope x)(r:yg v u) (h:∀s',Inv X pins (O.set i (some v)) H s'->Q () s')(hf:X.fn x=true\/X.env.scope.names.lookup x=some .local:=by first | exact .inl rfl | exact .inr rfl | assumption):wpAny M A (storeName X.env x u) Q E s:= z0V I hN hi hx r (λs' I' _=>h s' I') hf
theorem Inv.call' {s':Shared} {ch:List Addr} (I:Inv X pins O H s) (ho:s'.os=s.os) (u:Un (frs X.stack) ch H H' s.heap s'.heap) (hok:HOk X.prog X.w H' s'.heap) (hg:AllBare s'.gens) (hch:∀b∈ch,(b∈X.ex\/X.s₀.heap.objs.size<=b)/\b≠X.env.locals/\(∀x c,X.env.cells.lookup x=some c->c≠b)/\∀p∈X.pn++pins,p.1≠b):Inv X pins O H' s':=by
 obtain⟨h',g',d',t',o'⟩:=s';have e:o'=s.os:=ho;subst e;exact I.call (g':=g') (t':=t') (d':=d') u hok hg hch
end
abbrev XK:=Value->Option Addr->Hp->Prop
abbrev St:=List (Option V)
abbrev VK:=V->Hp->Prop
abbrev TE:=St->Hp->VK->Prop
abbrev TT:=St->Hp->(Bool->Hp->Prop)->Prop
abbrev TA:=St->Hp->(List V->Hp->Prop)->Prop
structure zfn where
 nx:St->Hp->Prop
 rt:VK
 bk:St->Hp->Prop:=λ_ _=>False
 ct:St->Hp->Prop:=λ_ _=>False
abbrev TS:=zfn->St->Hp->Prop
def EP(X:Cx)(pins:List (Addr×Obj))(O:St)(Q:VK)(u:Value)(s':Shared):Prop:=∃v H',Inv X pins O H' s'/\yg v u/\Q v H'
def TP(X:Cx)(pins:List (Addr×Obj))(O:St)(Q:Bool->Hp->Prop)(b:Bool)(s':Shared):Prop:=∃H',Inv X pins O H' s'/\Q b H'
def AP(X:Cx)(pins:List (Addr×Obj))(O:St)(Q:List V->Hp->Prop)(us:List Value)(s':Shared):Prop:=∃vs H',Inv X pins O H' s'/\yd vs us/\Q vs H'
def SP(X:Cx)(pins:List (Addr×Obj))(D:zfn)(f:Flow)(s':Shared):Prop:= match f with
 | .next=>∃O' H',Inv X pins O' H' s'/\D.nx O' H' | .brk=>∃O' H',Inv X pins O' H' s'/\D.bk O' H' | .cont=>∃O' H',Inv X pins O' H' s'/\D.ct O' H' | .ret u=>∃v O' H',Inv X pins O' H' s'/\yg v u/\D.rt v H'
def PE(X:Cx)(e:Expr)(t:TE):Prop:= ∀(pins:List (Addr×Obj))(s:Shared)(O:St)(H:Hp)(Q:VK),Inv X pins O H s->t O H Q->wpAny (model X.prog X.w) X.A (eval e X.env) (EP X pins O Q) X.xe s
def PT(X:Cx)(e:Expr)(t:TT):Prop:= ∀(pins:List (Addr×Obj))(s:Shared)(O:St)(H:Hp)(Q:Bool->Hp->Prop),Inv X pins O H s->t O H Q->wpAny (model X.prog X.w) X.A (isTrue e X.env (eval e X.env)) (TP X pins O Q) X.xe s
def PW(X:Cx)(e:Expr)(t:TT):Prop:= ∀(whole:Sem Value)(pins:List (Addr×Obj))(s:Shared)(O:St)(H:Hp)(Q:Bool->Hp->Prop),Inv X pins O H s->t O H Q->wpAny (model X.prog X.w) X.A (isTrue e X.env whole) (TP X pins O Q) X.xe s
theorem PW.pt{X:Cx}{e:Expr}{t:TT}(h:PW X e t):PT X e t:=h _
def PA(X:Cx)(es:List Expr)(t:TA):Prop:= ∀(pos:Pos)(pins:List (Addr×Obj))(s:Shared)(O:St)(H:Hp)(Q:List V->Hp->Prop),Inv X pins O H s->t O H Q->wpAny (model X.prog X.w) X.A (spliced (backTo pos (starEach es X.env))) (AP X pins O Q) X.xe s
def PS(X:Cx)(st:Stmt)(t:TS):Prop:= ∀(pins:List (Addr×Obj))(s:Shared)(O:St)(H:Hp)(D:zfn),Inv X pins O H s->t D O H->wpAny (model X.prog X.w) X.A (exec st X.env) (SP X pins D) X.xe s
def PSs(X:Cx)(st:List Stmt)(t:TS):Prop:= ∀(pins:List (Addr×Obj))(s:Shared)(O:St)(H:Hp)(D:zfn),Inv X pins O H s->t D O H->wpAny (model X.prog X.w) X.A (execs st X.env) (SP X pins D) X.xe s
theorem thn{α:Type}{t:Sem α}{Q Q':α->Shared->Prop}{M:Model}{A:Around}{E:Value->Shared->Prop}{s:Shared}(h:wpAny M A t Q E s)(hQ:∀a s,Q a s->Q' a s):wpAny M A t Q' E s:=_D h hQ λ_ _ x=>x
section
variable {X:Cx}
theorem bin{a b:Expr}{ta tb:TE}(ha:PE X a ta)(hb:PE X b tb){pins:List (Addr×Obj)}{s:Shared}{O:St}{H:Hp}{R:V->V->Hp->Prop}(I:Inv X pins O H s)(h:ta O H λx H1=>tb O H1 λy H2=>R x y H2) {α:Type}{Q:α->Shared->Prop}{f:Value->Value->Sem α} (hf:∀v u s2 x y H2,Inv X pins O H2 s2->yg x v->yg y u->R x y H2->wpAny (model X.prog X.w) X.A (f v u) Q X.xe s2): wpAny (model X.prog X.w) X.A (eval a X.env) (λv s₁=>wpAny (model X.prog X.w) X.A (eval b X.env) (λu s₂=>wpAny (model X.prog X.w) X.A (f v u) Q X.xe s₂) X.xe s₁) X.xe s:=by
 refine thn (ha pins s O H _ I h) λv s1 ⟨x,H1,I1,r1,q1⟩=>?_;refine thn (hb pins s1 O H1 _ I1 q1) λu s2 ⟨y,H2,I2,r2,q2⟩=>?_;exact hf v u s2 x y H2 I2 r1 r2 q2
def zkP(i:Nat):TE:=λO H Q=>∃v,O[i]? = some (some v)/\Q v H
def tC(v:V):TE:=λ_ H Q=>Q v H
theorem z9G{i:Nat}{x:Str}{pos:Pos}(hN:X.N[i]? = some x)(hv:Vis X.env.scope x)(hd:(x==("__debug__":Str))=false:=by decide)(hcd:(x==("__classdict__":Str))=false:=by decide):PE X (.Name x pos) (zkP i):=by
 intro pins s O H Q I h;obtain⟨v,e,h⟩:=h;obtain⟨m,hn,hl⟩:=I.loc;obtain⟨u,r,l⟩:=hl i x v hN e hv;have fin:EP X pins O Q u s:=⟨v,H,I,r,h⟩;rcases l with⟨hk,hm⟩ | ⟨hk,c,hc,hcell⟩;·exact wpAny_Name (wpAny_loadName_local I.ok.kind hk hn hm fin) hd
 ·rcases hk with hk | hk;·exact wpAny_Name (wpAny_loadName_cell I.ok.kind hk hc hcell fin) hd
  ·exact wpAny_Name (wpAny_loadName_free I.ok.kind hk hc hcell fin hcd) hd
theorem zdY{i j pos}:PE X (.Constant (.int i) j pos) (tC (.int i)):=λ_ _ _ H _ I h=>wpAny_Constant_int ⟨.int i,H,I.tok _,⟨_,rfl⟩,h⟩
theorem zjW{b j pos}:PE X (.Constant (.bool b) j pos) (tC (.bl b)):=λ_ _ _ H _ I h=>Constant_bool ⟨.bl b,H,I,rfl,h⟩
theorem zhz{x j pos}:PE X (.Constant (.str x) j pos) (tC (.str x)):=λ_ _ _ H _ I h=>Calls.Constant_str ⟨.str x,H,I.tok _,⟨_,rfl⟩,h⟩
def Gl(X:Cx)(x:Str):Prop:=X.env.kindOf x=some .globalImplicit
theorem z6k{E:Value->Shared->Prop}{pins:List (Addr×Obj)}{s:Shared}{O:St}{H:Hp}{x:Str}{u:Value}{pos:Pos}{Q:Value->Shared->Prop}(I:Inv X pins O H s)(hg:Gl X x)(hm:X.mg x=some u)(h:Q u s) (hd:(x==("__debug__":Str))=false:=by decide):wpAny (model X.prog X.w) X.A (eval (.Name x pos) X.env) Q E s:= Calls.Name_function_global I.ok.kind hg (Calls.loadGlobal_global (by rw[I.ok.glob];exact I.mod.glob.keeps I.bk) hm h) hd
theorem kQ{E:Value->Shared->Prop}{pins:List (Addr×Obj)}{s:Shared}{O:St}{H:Hp}{x:Str}{u:Value}{pos:Pos}{Q:Value->Shared->Prop}(I:Inv X pins O H s)(hg:Gl X x)(hm:X.mg x=none)(hv:bootBuiltins x=some u)(h:Q u s) (hn:x≠"__name__":=by decide)(hd:(x==("__debug__":Str))=false:=by decide):wpAny (model X.prog X.w) X.A (eval (.Name x pos) X.env) Q E s:=by
 obtain⟨mb,h1,h2⟩:=I.mod.blt;exact Calls.Name_function_global I.ok.kind hg (Calls.loadGlobal_builtin (by rw[I.ok.glob];exact I.mod.glob.keeps I.bk) hm (by rw[I.ok.blt];exact h1.keeps I.bk) ((h2 x hn).trans hv) h) hd
theorem z3a{x:Str}{v:V}{u:Value}{pos:Pos}(hg:Gl X x)(hm:X.mg x=some u)(r:yg v u)(hd:(x==("__debug__":Str))=false:=by decide):PE X (.Name x pos) (tC v):= λ_ _ _ H _ I h=>z6k I hg hm ⟨v,H,I,r,h⟩ hd
theorem zf7{x:Str}{v:V}{u:Value}{pos:Pos}(hg:Gl X x)(hm:X.mg x=none)(hv:bootBuiltins x=some u)(r:yg v u)(hn:x≠"__name__":=by decide)(hd:(x==("__debug__":Str))=false:=by decide):PE X (.Name x pos) (tC v):= λ_ _ _ H _ I h=>kQ I hg hm hv ⟨v,H,I,r,h⟩ hn hd
variable {a b:Expr}{ta tb:TE}{pos:Pos}
def PC(X:Cx)(op:CmpOp)(a b:Expr)(t:TE):Prop:= ∀(pins:List (Addr×Obj))(s:Shared)(O:St)(H:Hp)(Q:VK),Inv X pins O H s->t O H Q-> wpAny (model X.prog X.w) X.A (eval a X.env) (λv s₁=>wpAny (model X.prog X.w) X.A (eval b X.env) (λu s₂=>wpAny (model X.prog X.w) X.A (compareOp op v u) (EP X pins O Q) X.xe s₂) X.xe s₁) X.xe s
def tB(t:TE):TT:=λO H Q=>t O H λx H1=>∃c,x=.bl c/\Q c H1
theorem zkM{op:CmpOp}{t:TE}(h:PC X op a b t)(h1:behindInMarks op b=false:=by first | exact nobehind _ (by decide) (by decide) | rfl):PT X (.Compare a [op] [b] pos) (tB t):=by
 intro pins s O H Q I hw;refine wpAny_isTrue_Compare1 (thn (h pins s O H _ I hw) λv s1 h1=>thn h1 λu s2 h2=>thn h2 λc s3 ⟨x,H1,I1,r1,q1⟩=>?_) h1;obtain⟨d,rfl,q⟩:=q1;cases r1;exact _az ⟨H1,I1,q⟩
theorem zib{e:Expr}{t:TE}(h:PE X e t)(he:∀whole,isTrue e X.env whole=(do let v <- whole;standAt e.pos;holding [v] (truthy v)):=by intro _;rfl):PT X e (tB t):=by
 intro pins s O H Q I hw;refine isTrue_plain (thn (h pins s O H _ I hw) λv s1 ⟨x,H1,I1,r1,q1⟩=>?_) (he _);obtain⟨d,rfl,q⟩:=q1;cases r1;exact _az ⟨H1,I1,q⟩
variable {tA tB':TT}{qu:List Expr}
def zkR(t u:TT):TT:=λO H Q=>t O H λc H1=>if c=true then u O H1 Q else Q false H1
def tOr(t u:TT):TT:=λO H Q=>t O H λc H1=>if c=true then Q true H1 else u O H1 Q
def zlr(t:TT):TT:=λO H Q=>t O H λc H1=>Q (!c) H1
theorem zfA(ha:PT X a tA):PW X (.BoolOp .And [a] pos) tA:=by
 intro wh pins s O H Q I h;refine isTrue_and (thn (ha pins s O H Q I h) λc s1 e=>?_);cases c with
 | true=>exact isTrue_and_nil e | false=>exact e
theorem zhu(ha:PT X a tA):PW X (.BoolOp .Or [a] pos) tA:=by
 intro wh pins s O H Q I h;refine isTrue_or (thn (ha pins s O H Q I h) λc s1 e=>?_);cases c with
 | false=>exact isTrue_or_nil e | true=>exact e
theorem zhs(ha:PT X a tA)(hb:PW X (.BoolOp .And (b::qu) pos) tB'):PW X (.BoolOp .And (a::b::qu) pos) (zkR tA tB'):=by
 intro wh pins s O H Q I h;refine isTrue_and (thn (ha pins s O H _ I h) λc s1 ⟨H1,I1,q1⟩=>?_);cases c with
 | true=>exact hb wh pins s1 O H1 Q I1 q1 | false=>exact⟨H1,I1,q1⟩
theorem zjX(ha:PT X a tA)(hb:PW X (.BoolOp .Or (b::qu) pos) tB'):PW X (.BoolOp .Or (a::b::qu) pos) (tOr tA tB'):=by
 intro wh pins s O H Q I h;refine isTrue_or (thn (ha pins s O H _ I h) λc s1 ⟨H1,I1,q1⟩=>?_);cases c with
 | true=>exact⟨H1,I1,q1⟩ | false=>exact hb wh pins s1 O H1 Q I1 q1
theorem zgV(ha:PT X a tA):PT X (.UnaryOp .Not a pos) (zlr tA):=by
 intro pins s O H Q I h;exact isTrue_not (ha pins s O H (λc H1=>Q (!c) H1) I h)
def zji(ta tb:TE):TE:=λO H Q=>ta O H λx H1=>∃c,x=.bl c/\if c=true then tb O H1 Q else Q (.bl false) H1
def zjR(ta:TE):TE:=λO H Q=>ta O H λx H1=>∃c,x=.bl c/\Q (.bl (!c)) H1
theorem zha{op}{t:TE}(h:PE X a t):PE X (.BoolOp op [a] pos) t:=λpins s O H Q I hw=>BoolOp_one (h pins s O H Q I hw)
theorem zgp(ha:PE X a ta)(hb:PE X (.BoolOp .And (b::qu) pos) tb):PE X (.BoolOp .And (a::b::qu) pos) (zji ta tb):=by
 intro pins s O H Q I h;refine BoolOp_and (thn (ha pins s O H _ I h) λv s1 ⟨x,H1,I1,r1,q1⟩=>?_);obtain⟨c,rfl,q1⟩:=q1;cases r1;refine _az ?_;cases c with
 | true=>exact hb pins s1 O H1 Q I1 q1 | false=>exact⟨.bl false,H1,I1,rfl,q1⟩
theorem zij(ha:PE X a ta):PE X (.UnaryOp .Not a pos) (zjR ta):=by
 intro pins s O H Q I h;refine UnaryOp_ (thn (ha pins s O H _ I h) λv s1 ⟨x,H1,I1,r1,q1⟩=>?_);obtain⟨c,rfl,q1⟩:=q1;cases r1;exact not_of (_az ⟨.bl (!c),H1,I1,rfl,q1⟩)
def tIf(t:TT)(ta tb:TE):TE:=λO H Q=>t O H λc H1=>if c=true then ta O H1 Q else tb O H1 Q
theorem zc3{c:Expr}(hc:PT X c tA)(ha:PE X a ta)(hb:PE X b tb):PE X (.IfExp c a b pos) (tIf tA ta tb):=by
 intro pins s O H Q I h;refine wpAny_IfExp (thn (hc pins s O H _ I h) λd s1 ⟨H1,I1,q1⟩=>?_);cases d with
 | true=>exact ha pins s1 O H1 Q I1 q1 | false=>exact hb pins s1 O H1 Q I1 q1
end
def SqL(K:W.Frag)(H:Hp)(a:Addr)(xs:List V):Prop:= Rd H a (.lst xs)\/ ∃(o:Obj)(its:Array Value)(n:Nat),K.lookup a=some o/\o.cls=.type "list"/\o.dict=none/\o.data=.seq its n/\its.size<=sizeLine/\yd xs its.toList
def SqT(K:W.Frag)(H:Hp)(a:Addr)(xs:List V):Prop:= Rd H a (.tup xs)\/ ∃(o:Obj)(its:Array Value)(n:Nat),K.lookup a=some o/\o.cls=.type "tuple"/\o.data=.seq its n/\its.size<=sizeLine/\yd xs its.toList
def zlz:Value->Option V
 | .none=>some .non | .bool b=>some (.bl b) | .int i _=>some (.int i) | .str x _=>some (.str x) | .bytes b _=>some (.byt b) | .float b _=>some (.flt b) | .ref a=>some (.ref a) | .type n=>some (.ty n) | _=>none
theorem yg.abs{x:V}{u:Value}(r:yg x u):zlz u=some x:=by cases x with
 | non=>cases r;rfl | bl _=>cases r;rfl | int _=>obtain⟨t,rfl⟩:=r;rfl | str _=>obtain⟨t,rfl⟩:=r;rfl | byt _=>obtain⟨t,rfl⟩:=r;rfl | flt _=>obtain⟨t,rfl⟩:=r;rfl | ref _=>cases r;rfl | ty _=>cases r;rfl
theorem yg.inj{x y:V}{u:Value}(r:yg x u)(q:yg y u):x=y:=_E (r.abs.symm.trans q.abs)
theorem yd.inj:∀{xs ys:List V}{us:List Value},yd xs us->yd ys us->xs=ys
 | _,_,_,.nil,.nil=>rfl | _,_,_,.cons r t,.cons r' t'=>by rw[r.inj r',yd.inj t t']
section
variable {X:Cx}{pins:List (Addr×Obj)}{O:St}{H:Hp}{s:Shared}{a:Addr}{xs ys:List V}
theorem Inv.list(I:Inv X pins O H s)(h:SqL X.K H a xs):∃its:List Value,yd xs its/\PlainL s.heap a its.toArray/\xs.length<=sizeLine:=by
 rcases h with h | ⟨o,its,n,hk,hc,hd,hs,hz,r⟩
 ·obtain⟨z,its,n,r,e⟩:=h.ok I.hok;exact⟨its,r,⟨_,n,e,rfl,rfl,rfl⟩,z⟩
 ·refine⟨its.toList,r,⟨o,n,I.kIn a o hk,hc,hd,by simpa using hs⟩,?_⟩;have e:=r.length;simp only[_ae]at e;omega
theorem Inv.tuple(I:Inv X pins O H s)(h:SqT X.K H a xs):∃its:List Value,yd xs its/\IsTup s.heap a its.toArray/\xs.length<=sizeLine:=by
 rcases h with h | ⟨o,its,n,hk,hc,hs,hz,r⟩
 ·obtain⟨z,its,r,p⟩:=h.ok I.hok;exact⟨its,r,p.tup,z⟩
 ·refine⟨its.toList,r,⟨o,I.kIn a o hk,hc,n,by simpa using hs⟩,?_⟩;have e:=r.length;simp only[_ae]at e;omega
theorem Inv.list_inj(I:Inv X pins O H s)(h:SqL X.K H a xs)(h':SqL X.K H a ys):xs=ys:=by
 obtain⟨its,r,⟨o,n,e,_,_,d⟩,_⟩:=I.list h;obtain⟨its',r',⟨o',n',e',_,_,d'⟩,_⟩:=I.list h';rw[e]at e';cases e';rw[d]at d';injection d' with d1 _;have:its=its':=by simpa using _aq Array.toList d1
 subst this;exact r.inj r'
theorem Inv.tuple_inj(I:Inv X pins O H s)(h:SqT X.K H a xs)(h':SqT X.K H a ys):xs=ys:=by
 obtain⟨its,r,⟨o,e,_,n,d⟩,_⟩:=I.tuple h;obtain⟨its',r',⟨o',e',_,n',d'⟩,_⟩:=I.tuple h';rw[e]at e';cases e';rw[d]at d';injection d' with d1 _;have:its=its':=by simpa using _aq Array.toList d1
 subst this;exact r.inj r'
end
abbrev Cx.wish(X:Cx)(E:Value->Shared->Prop):Cx:={X with xe:=E}
abbrev Cx.nox(X:Cx):Cx:=X.wish λ_ _=>False
theorem Cx.Ok.wish{X:Cx}(ok:X.Ok)(E:Value->Shared->Prop):(X.wish E).Ok:= ⟨ok.mod,ok.kind,ok.glob,ok.blt,ok.above,ok.inj,ok.has,ok.cab,ok.hd,ok.frames,ok.stk,ok.exf,ok.bs,ok.bsz,ok.noex,ok.exfs,ok.funs,ok.frf⟩
theorem Cx.Ok.unwish{X:Cx}{E:Value->Shared->Prop}(ok:(X.wish E).Ok):X.Ok:= ⟨ok.mod,ok.kind,ok.glob,ok.blt,ok.above,ok.inj,ok.has,ok.cab,ok.hd,ok.frames,ok.stk,ok.exf,ok.bs,ok.bsz,ok.noex,ok.exfs,ok.funs,ok.frf⟩
section
variable {X:Cx}{pins:List (Addr×Obj)}{O:St}{H:Hp}{s:Shared}{E:Value->Shared->Prop}
theorem Inv.wish(I:Inv X pins O H s)(E:Value->Shared->Prop):Inv (X.wish E) pins O H s:=⟨I.ok.wish E,I.os,I.bare,I.base,I.loc,I.cell,I.free,I.freeC,I.pin,I.hok,I.len⟩
theorem Inv.unwish(I:Inv (X.wish E) pins O H s):Inv X pins O H s:=⟨I.ok.unwish,I.os,I.bare,I.base,I.loc,I.cell,I.free,I.freeC,I.pin,I.hok,I.len⟩
theorem SP.unwish{D:zfn}{f:Flow}{s':Shared}(h:SP (X.wish E) pins D f s'):SP X pins D f s':=by cases f with
 | next=>obtain⟨O',H',I,q⟩:=h;exact⟨O',H',I.unwish,q⟩ | brk=>obtain⟨O',H',I,q⟩:=h;exact⟨O',H',I.unwish,q⟩ | cont=>obtain⟨O',H',I,q⟩:=h;exact⟨O',H',I.unwish,q⟩ | ret u=>obtain⟨v,O',H',I,r,q⟩:=h;exact⟨v,O',H',I.unwish,r,q⟩
theorem PSs.nox{st:List Stmt}{t:TS}(h:PSs X.nox st t):PSs X st t:=λpins s O H D I hw=> _D (h pins s O H D (I.wish _) hw) (λ_ _ q=>q.unwish) λ_ _ z=>False.elim z
end
section
variable {X:Cx}{st:Stmt}{qu:List Stmt}{t u:TS}{e:Expr}{te:TE}{pos:Pos}
def zjB:TS:=λD O H=>D.nx O H
def zkx(t u:TS):TS:=λD O H=>t {D with nx:=u D} O H
theorem zex:PSs X [] zjB:=λ_ _ O H _ I h=>_cH ⟨O,H,I,h⟩
theorem zbr(h1:PS X st t)(h2:PSs X qu u):PSs X (st::qu) (zkx t u):=by
 intro pins s O H D I h;refine wpAny_execs_cons (thn (h1 pins s O H {D with nx:=u D} I h) λf s1 q=>?_);cases f with
 | next=>
  obtain⟨O',H',I',q⟩:=q;exact h2 pins s1 O' H' D I' q | ret v=>exact q | brk=>exact q | cont=>exact q
theorem zev(h1:PS X st t):PSs X [st] t:=by
 intro pins s O H D I h;refine wpAny_execs_cons (thn (h1 pins s O H D I h) λf s1 q=>?_);cases f with
 | next=>exact _cH q | ret v=>exact q | brk=>exact q | cont=>exact q
def ziB:TS:=λD O H=>D.bk O H
theorem zbT:PS X (.Break pos) ziB:=λ_ _ O H _ I h=>wpAny_Break ⟨O,H,I,h⟩
theorem Inv.quiet{pins:List (Addr×Obj)}{O:St}{H:Hp}{s:Shared}(I:Inv X pins O H s):interactive X.env=false:=by simp[interactive,I.ok.kind]
def zjU(te:TE):TS:=λD O H=>te O H λ_ H1=>D.nx O H1
theorem zfw(he:PE X e te)(hs:swapsWith e none pos.line X.env=pure false:=by rfl):PS X (.Expr e pos) (zjU te):=by
 intro pins s O H D I h;exact wpAny_Expr_any (thn (he pins s O H _ I h) λv s1 ⟨x,H1,I1,r1,q1⟩=>⟨O,H1,I1,q1⟩) I.quiet hs
def zl6(te:TE):TS:=λD O H=>te O H D.rt
theorem zgW(he:PE X e te):PS X (.Return (some e) pos) (zl6 te):=by
 intro pins s O H D I h;exact wpAny_Return_some (thn (he pins s O H _ I h) λv s1 ⟨x,H1,I1,r1,q1⟩=>⟨x,O,H1,I1,r1,q1⟩)
def zls(c:TT)(t u:TS):TS:=λD O H=>c O H λb H1=>if b=true then t D O H1 else u D O H1
theorem zki{c:Expr}{a b:List Stmt}{tc:TT}(hc:PT X c tc)(ha:PSs X a t)(hb:PSs X b u):PS X (.If c a b pos) (zls tc t u):=by
 intro pins s O H D I h;refine wpAny_If (thn (hc pins s O H _ I h) λd s1 ⟨H1,I1,q1⟩=>?_);cases d with
 | true=>exact ha pins s1 O H1 D I1 q1 | false=>exact hb pins s1 O H1 D I1 q1
def zgD:TS:=λ_ _ _=>False
theorem zby:PS X st zgD:=λ_ _ _ _ _ _ h=>h.elim
end
abbrev TG:=V->St->Hp->(St->Hp->Prop)->Prop
abbrev TGs:=List V->St->Hp->(St->Hp->Prop)->Prop
def PG(X:Cx)(target:Expr)(t:TG):Prop:= ∀(pins:List (Addr×Obj))(s:Shared)(O:St)(H:Hp)(v:V)(u:Value)(Q:St->Hp->Prop),Inv X pins O H s->yg v u->t v O H Q-> wpAny (model X.prog X.w) X.A (assign target X.env u) (λ_ s'=>∃O' H',Inv X pins O' H' s'/\Q O' H') X.xe s
def PGs(X:Cx)(ts:List Expr)(t:TGs):Prop:= ∀(pins:List (Addr×Obj))(s:Shared)(O:St)(H:Hp)(vs:List V)(us:List Value)(Q:St->Hp->Prop),Inv X pins O H s->yd vs us->t vs O H Q-> wpAny (model X.prog X.w) X.A (assignInOrder ((assignEach ts X.env).map (·.2)) us) (λ_ s'=>∃O' H',Inv X pins O' H' s'/\Q O' H') X.xe s
abbrev zk0:=V->V->V->Hp->(Hp->Prop)->Prop
def zkI(X:Cx)(t:zk0):Prop:= ∀(pins:List (Addr×Obj))(s:Shared)(O:St)(H:Hp)(o i v:V)(ov iv u:Value)(Q:Hp->Prop),Inv X pins O H s->yg o ov->yg i iv->yg v u->t o i v H Q-> wpAny (model X.prog X.w) X.A (setItem ov iv u) (λ_ s'=>∃H',Inv X pins O H' s'/\Q H') X.xe s
abbrev TIp:=V->V->Hp->VK->Prop
def PIp(X:Cx)(op:Operator)(t:TIp):Prop:= ∀(pins:List (Addr×Obj))(s:Shared)(O:St)(H:Hp)(x y:V)(v u:Value)(Q:VK),Inv X pins O H s->yg x v->yg y u->t x y H Q-> wpAny (model X.prog X.w) X.A (inplaceOp op v u) (EP X pins O Q) X.xe s
section
variable {X:Cx}{pos:Pos}
def z0j(i:Nat):TG:=λv O H Q=>Q (O.set i (some v)) H
theorem yb{i:Nat}{x:Str}(hN:X.N.Nodup)(hi:X.N[i]? = some x)(hx:Loc X.env.scope x)(hf:X.fn x=true\/X.env.scope.names.lookup x=some .local:=by first | exact .inl rfl | exact .inr rfl | assumption):PG X (.Name x pos) (z0j i):=by
 intro pins s O H v u Q I r h;exact _db (jy I hN hi hx r (λs' I'=>⟨_,H,I',h⟩) hf)
def zkA:TGs:=λvs O H Q=>vs=[]/\Q O H
def zfl(t:TG)(u:TGs):TGs:=λvs O H Q=>∃v r,vs=v::r/\t v O H λO' H'=>u r O' H' Q
theorem zaG:PGs X [] zkA:=by
 intro pins s O H vs us Q I r h;obtain⟨e,h⟩:=h;subst e;cases r;exact assignInOrder_nil ⟨O,H,I,h⟩
theorem z0d{e:Expr}{es:List Expr}{t:TG}{u:TGs}(h1:PG X e t)(h2:PGs X es u) (hs:(assignEach (e::es) X.env).map (·.2)=assign e X.env::(assignEach es X.env).map (·.2):=by rfl):PGs X (e::es) (zfl t u):=by
 intro pins s O H vs us Q I r h;obtain⟨v,vr,e1,h⟩:=h;subst e1;cases r with | cons r rr=>
  rw[hs];refine _cW (thn (h1 pins s O H _ _ _ I r h) λ_ s1 ⟨O1,H1,I1,q1⟩=>?_);exact h2 pins s1 O1 H1 _ _ Q I1 rr q1
def zkJ(K:W.Frag)(n:Nat)(t:TGs):TG:=λv O H Q=>∃a xs,v=.ref a/\SqT K H a xs/\xs.length=n/\t xs O H Q
theorem zdM{es:List Expr}{k:Nat}{t:TGs}{n:Nat}(hc:X.calm=true)(h:PGs X es t) (hn:(assignEach es X.env).length=n:=by rfl)(hst:(assignEach es X.env).findIdx? (·.1)=none:=by rfl):PG X (.Tuple es k pos) (zkJ X.K n t):=by
 intro pins s O H v u Q I r hw;obtain⟨a,xs,e1,hq,hl,hw⟩:=hw;subst e1;cases r;obtain⟨its,rv,ht,hz⟩:=I.tuple hq;refine assign_Tuple_tuple (I.ok.hd hc) ht (by simp[hn,<- hl,rv.length]) hst λh' hx=>?_;have I1:Inv X pins O H {s with heap:=h'}:=I.kept (t':=s.toks) λb o e=>hx b o (_t (_l e)) e;exact h pins _ O H xs _ Q I1 (by simpa using rv) hw
def zlo(to ti:TE)(t:zk0):TG:=λv O H Q=>to O H λo H1=>ti O H1 λi H2=>t o i v H2 λH3=>Q O H3
theorem zgl{o i:Expr}{to ti:TE}{t:zk0}(ho:PE X o to)(hi:PE X i ti)(hs:zkI X t) (ha:∀v,assign (.Subscript o i pos) X.env v=(do
   let ov <- holding [v] (eval o X.env) let iv <- holding [v,ov] (eval i X.env)
   standAt pos
   holding [v,ov,iv] (setItem ov iv v)
   release [v,ov,iv] []):=by intro _;rfl):PG X (.Subscript o i pos) (zlo to ti t):=by
 intro pins s O H v u Q I r h;rw[ha];refine _a (_X (thn (ho pins s O H _ I h) λov s1 ⟨x,H1,I1,r1,q1⟩=>?_));refine _a (_X (thn (hi pins s1 O H1 _ I1 q1) λiv s2 ⟨y,H2,I2,r2,q2⟩=>?_));refine _a (_aS (_a (_X (thn (hs pins s2 O H2 x y v ov iv u _ I2 r1 r2 r q2) λ_ s3 ⟨H3,I3,q3⟩=>?_))));exact wpAny_release ⟨O,H3,I3,q3⟩
def zkw(te:TE)(g:TG):TS:=λD O H=>te O H λx H1=>g x O H1 D.nx
theorem zdv{tg e:Expr}{te:TE}{g:TG}(he:PE X e te)(hg:PG X tg g)(hs:swapsWithSole [tg] e pos.line X.env=pure false:=by rfl)(hw:swappedStores [tg] e X.env=pure none:=by rfl) (h1:(assignEach [tg] X.env).map (·.2)=[assign tg X.env]:=by rfl):PS X (.Assign [tg] e pos) (zkw te g):=by
 intro pins s O H D I h;refine wpAny_Assign_stores (thn (he pins s O H _ I h) λv s1 ⟨x,H1,I1,r1,q1⟩=>?_) hs hw;rw[h1];exact thn (hg pins s1 O H1 x v _ I1 r1 q1) λ_ s2 q=>q
theorem zit{i:Nat}{x:Str}{e:Expr}{te:TE}{pos':Pos}(hN:X.N.Nodup)(hi:X.N[i]? = some x)(hx:Loc X.env.scope x)(he:PE X e te)(hs:swapsWith e (some (.Name x pos')) pos.line X.env=pure false:=by rfl)(hf:X.fn x=true\/X.env.scope.names.lookup x=some .local:=by first | exact .inl rfl | exact .inr rfl | assumption): PS X (.Assign [.Name x pos'] e pos) (zkw te (z0j i)):=by
 intro pins s O H D I h;refine wpAny_Assign_Name (thn (he pins s O H _ I h) λv s1 ⟨y,H1,I1,r1,q1⟩=>?_) hs;exact jy I1 hN hi hx r1 (λs2 I2=>⟨_,H1,I2,q1⟩) hf
def zkV(i j:Nat)(ta:TA):TS:=λD O H=>ta O H λvs H1=>∃v w,vs=[v,w]/\D.nx ((O.set i (some v)).set j (some w)) H1
theorem zhy {i j:Nat} {x y:Str} {a b:Expr} {ta:TA} {px py pt:Pos} {kt k2 pt2} (hc:X.calm=true) (hN:X.N.Nodup) (hi:X.N[i]? = some x) (hj:X.N[j]? = some y) (hij:i≠j) (hx:X.env.scope.names.lookup x=some .local) (hy:X.env.scope.names.lookup y=some .local) (ha:PA X [a,b] ta) (hw:swappedStores [.Tuple [.Name x px,.Name y py] kt pt] (.Tuple [a,b] k2 pt2) X.env=pure (some [x,y])) (hs:swapsWithSole [.Tuple [.Name x px,.Name y py] kt pt] (.Tuple [a,b] k2 pt2) pos.line X.env=pure false:=by rfl): PS X (.Assign [.Tuple [.Name x px,.Name y py] kt pt] (.Tuple [a,b] k2 pt2) pos) (zkV i j ta):=by
 intro pins s O H D I h;rw[exec_Assign_arm];refine _a (_aS ?_);rw[hs];refine _a (_b ?_);rw[_i (by decide)];refine _a (Tuple_ (thn (ha _ pins s O H _ I h) λus s1 ⟨vs,H1,I1,r1,q1⟩=>?_));obtain⟨v,w,e1,q1⟩:=q1;subst e1;obtain⟨u1,u2,rfl,rv,rw'⟩:∃u1 u2,us=[u1,u2]/\yg v u1/\yg w u2:=by cases r1 with | cons p q=> cases q with | cons p' q'=>
    cases q';exact⟨_,_,rfl,p,p'⟩
 refine _G ?_ (by show 2<=sizeLine;decide);have I2:Inv X pins O H1 {s1 with heap:=s1.heap.push {cls:=.type "tuple",data:=.seq [u1,u2].toArray}}:=I1.kept (t':=s1.toks) λb o e=>_c _ e;rw[hw];refine _a (_b ?_);show wpAny (model X.prog X.w) X.A (do rule "assign.swapped-stores";let items <- unpackItems (.ref s1.heap.objs.size) 2 none;assignInOrder [λv=>bindName X.env y v,λv=>bindName X.env x v] items.reverse;pure Flow.next) _ _ _;refine _a (_cl (_a (unpackItems_tuple (items:=#[u1,u2]) (I.ok.hd hc) (IsTup.new s1.heap _) λh' hx'=>?_)));have I3:=I2.kept (h':=h') (t':=s1.toks) λb o e=>hx' b o (_t (_l e)) e;show wpAny _ _ (assignInOrder [λv=>bindName X.env y v,λv=>bindName X.env x v] [u2,u1] >>= λ_=>pure Flow.next) _ _ _;refine _a (_cW (wpAny_bindName (jy I3 hN hj (.inl hy) rw' (λs2 I4=>?_) (.inr hy))));refine _cW (wpAny_bindName (jy I4 hN hi (.inl hx) rv (λs3 I5=>assignInOrder_nil (_b ?_)) (.inr hx)));rw[List.set_comm _ _ (_a4 hij)]at I5;exact⟨_,H1,I5,q1⟩
def zly(i:Nat)(te:TE)(ti:TIp):TS:=λD O H=>∃x,O[i]? = some (some x)/\te O H λy H1=>ti x y H1 λz H2=>D.nx (O.set i (some z)) H2
theorem ziF{i:Nat}{x:Str}{e:Expr}{te:TE}{op:Operator}{ti:TIp}{pos':Pos}(hN:X.N.Nodup)(hi:X.N[i]? = some x)(hx:Loc X.env.scope x)(he:PE X e te)(ho:PIp X op ti)(hf:X.fn x=true\/X.env.scope.names.lookup x=some .local:=by first | exact .inl rfl | exact .inr rfl | assumption): PS X (.AugAssign (.Name x pos') op e pos) (zly i te ti):=by
 intro pins s O H D I h;obtain⟨v,e1,h⟩:=h;obtain⟨m,hn,hl⟩:=I.loc;have vis:Vis X.env.scope x:=by rcases hx with k | k;exact .inl k;exact .inr (.inl k)
 obtain⟨u,r,l⟩:=hl i x v hi e1 vis;refine wpAny_AugAssign_Name ?_;have go:wpAny (model X.prog X.w) X.A (eval e X.env) (λw s₂=>wpAny (model X.prog X.w) X.A (inplaceOp op u w) (λr s₃=>wpAny (model X.prog X.w) X.A (storeName X.env x r) (λ_=>SP X pins D .next) X.xe s₃) X.xe s₂) X.xe s:=by
  refine thn (he pins s O H _ I h) λw s1 ⟨y,H1,I1,r1,q1⟩=>?_;refine thn (ho pins s1 O H1 v y u w _ I1 r r1 q1) λz s2 ⟨zv,H2,I2,r2,q2⟩=>?_;exact jy I2 hN hi hx r2 (λs3 I3=>⟨_,H2,I3,q2⟩) hf
 rcases l with⟨hk,hm⟩ | ⟨hk,c,hc,hcell⟩;·exact wpAny_loadName_local I.ok.kind hk hn hm go
 ·rcases hk with hk | hk;·exact wpAny_loadName_cell I.ok.kind hk hc hcell go
  ·rcases hx with k | k
   ·have:X.env.scope.names.lookup x=some .free:=hk;rw[k]at this;cases this
   ·have:X.env.scope.names.lookup x=some .free:=hk;rw[k]at this;cases this
def ipI(f:Int->Int->Int):TIp:=λx y H Q=>∃i j,x=.int i/\y=.int j/\Q (.int (f i j)) H
theorem ziq:PIp X .Add (ipI λi j=>i+j):=by
 intro pins s O H x y v u Q I r1 r2 h;obtain⟨i,j,e1,e2,q⟩:=h;subst e1;subst e2;obtain⟨t,rfl⟩:=r1;obtain⟨t',rfl⟩:=r2;exact iadd_int ⟨.int _,H,I.tok _,⟨_,rfl⟩,q⟩
end
section
variable {X:Cx}{pos:Pos}
def zh3(c:TT)(tb:TS):TS:=λD O H=>∃W:Nat->St->Hp->Prop,(∃m,W m O H)/\∀m O H,W m O H-> c O H λb H1=>if b=true then ∃N:St->Hp->Prop,(∀O' H',N O' H'->∃m',m'<m/\W m' O' H')/\tb {D with nx:=N,ct:=N,bk:=D.nx} O H1 else D.nx O H1
theorem zcR{c:Expr}{body:List Stmt}{tc:TT}{tb:TS}(hp:PassesOwn (model X.prog X.w) X.A X.env X.xe)(hc:PT X c tc)(hb:PSs X body tb):PS X (.While c body [] pos) (zh3 tc tb):=by
 intro pins s O H D I h;obtain⟨W,⟨m0,w0⟩,turn⟩:=h;refine wpAny_While (codeAny_whileLoop (λn s'=>∃O' H',Inv X pins O' H' s'/\W n O' H') ?_ m0 ⟨O,H,I,w0⟩);rintro n s1 ⟨O1,H1,I1,w1⟩;refine _bg hp (thn (hc pins s1 O1 H1 _ I1 (turn n O1 H1 w1)) λb s2 ⟨H2,I2,q2⟩=>?_);cases b with
 | true=>
  obtain⟨N,hN,q2⟩:=q2;rw[_f rfl];refine _bg hp (thn (hb pins s2 O1 H2 _ I2 q2) λf s3 q3=>?_);cases f with
  | next=>
   obtain⟨O3,H3,I3,n3⟩:=q3;obtain⟨m',hm,w3⟩:=hN O3 H3 n3;exact⟨m',hm,O3,H3,I3,w3⟩ | cont=>
   obtain⟨O3,H3,I3,n3⟩:=q3;obtain⟨m',hm,w3⟩:=hN O3 H3 n3;exact⟨m',hm,O3,H3,I3,w3⟩ | brk=>exact q3 | ret v=>exact q3
 | false=>
  rw[_i _R];exact _cH ⟨O1,H2,I2,q2⟩
end
structure It where
 go:Nat->Hp->Prop
 yld:Nat->Hp->V->Hp->Prop
 stop:Nat->Hp->Prop
def z2a(X:Cx)(pins:List (Addr×Obj))(H:Hp)(b:Addr):Prop:= H b=none/\b≠X.env.locals/\b∉X.fs/\(b∈X.ex\/X.s₀.heap.objs.size<=b)/\(∀x c,X.env.cells.lookup x=some c->c≠b)/\∀p∈X.pn++pins,p.1≠b
theorem Inv.fpOk{X:Cx}{pins:List (Addr×Obj)}{O:St}{H H':Hp}{s:Shared}{b:Addr}(I:Inv X pins O H s)(hb:s.heap.objs.size<=b)(hn:H' b=none):z2a X pins H' b:=by
 refine⟨hn,_b5 (_v I.lt hb),I.nofs hb,.inr (_ad I.sz hb),λx c e z=>?_,λp hp z=>?_⟩
 ·obtain⟨v,q⟩:=I.cell x c e;exact absurd (_v q.lt (by rw[z];exact hb)) (_aN _)
 ·exact absurd (_v (_l (I.pin p hp).1) (by rw[z];exact hb)) (_aN _)
structure zbX(P:Program)(w:World)(K:W.Frag)(tg:Expr)(J:It)(fp:List Addr)(it:Addr)(tn:Nat->Heap->Prop):Prop where
 mem:it∈fp
 obj:∀i h,tn i h->∀b∈fp,∃o,h.get? b=some o/\∀v,o.data≠.cell v
 keep:∀i h h',tn i h->(∀b∈fp,∀o,h.get? b=some o->h'.get? b=some o)->tn i h'
 item:∀(X:Cx),X.prog=P->X.w=w->X.K=K->X.calm=true->∀(i:Nat)(pins:List (Addr×Obj))(s:Shared)(O:St)(H:Hp)(E:Value->Shared->Prop),Inv X pins O H s->(∀b∈fp,z2a X pins H b)->tn i s.heap->J.go i H-> wpAny (model P w) X.A (pyNext (.ref it)) (λr s1=>∃u,r=some u/\ wpAny (model P w) X.A (letOwnedTupleGo tg (.ref it) u) (λ_ s2=>∃x H',Inv X pins O H' s2/\yg x u/\J.yld i H x H'/\tn (i+1) s2.heap/\∀b∈fp,H' b=none) E s1) E s
 done:∀(X:Cx),X.prog=P->X.w=w->X.K=K->X.calm=true->∀(i:Nat)(pins:List (Addr×Obj))(s:Shared)(O:St)(H:Hp)(E:Value->Shared->Prop),Inv X pins O H s->(∀b∈fp,z2a X pins H b)->tn i s.heap->J.stop i H-> wpAny (model P w) X.A (pyNext (.ref it)) (λr s1=>r=none/\Inv X pins O H s1) E s
 self:∀(A:Around)(i:Nat)(s:Shared)(Q:Value->Shared->Prop)(E:Value->Shared->Prop),tn i s.heap->Q (.ref it) s->wpAny (model P w) A (pyIter (.ref it)) Q E s
abbrev TI:=St->Hp->(It->Hp->Prop)->Prop
def PIE(X:Cx)(pins:List (Addr×Obj))(O:St)(tg:Expr)(R:It->Hp->Prop)(itv:Value)(s2:Shared):Prop:= ∃(it:Addr)(fp:List Addr)(tn:Nat->Heap->Prop)(J:It)(H':Hp),itv=.ref it/\Inv X pins O H' s2/\zbX X.prog X.w X.K tg J fp it tn/\tn 0 s2.heap/\(∀b∈fp,z2a X pins H' b)/\R J H'
def PI(X:Cx)(tg iter:Expr)(wi:TI):Prop:= ∀(pins:List (Addr×Obj))(s:Shared)(O:St)(H:Hp)(R:It->Hp->Prop),Inv X pins O H s->wi O H R-> wpAny (model X.prog X.w) X.A (eval iter X.env) (λv s1=>wpAny (model X.prog X.w) X.A (pyIter v) (PIE X pins O tg R) X.xe s1) X.xe s
theorem z8I{M:Model}{A:Around}{E:Value->Shared->Prop}{s:Shared}{tg:Expr}{it:Addr}{u:Value}{o:Obj}{n:String}{vs:Array Value}{Q:Unit->Shared->Prop}(ho:s.heap.get? it=some o)(hc:o.cls=.type n)(hd:o.data=.fields vs) (hn:["enumerate","zip","dict_itemiterator","dict_reverseitemiterator","odict_iterator","itertools.zip_longest","itertools.pairwise"].contains n=false)(hQ:Q () s):wpAny M A (letOwnedTupleGo tg (.ref it) u) Q E s:=by
  unfold letOwnedTupleGo;cases tg<;>first
    | exact _b hQ | (cases u<;>first
        | exact _b hQ
        | (refine _a (wpAny_load ho ?_);rw[hc,hd];show wpAny M A (if (["enumerate","zip","dict_itemiterator","dict_reverseitemiterator","odict_iterator","itertools.zip_longest","itertools.pairwise"].contains n&&vs[0]? == some (rawInt _))=true then _ else _) Q E s;rw[_i (by intro h;rw[hn,_cX]at h;cases h)];exact _b hQ))
def Itl(K:W.Frag)(a:Addr):It:= ⟨λi H=>∃xs x,SqL K H a xs/\xs[i]? = some x,λi H x H'=>H'=H/\∀xs,SqL K H a xs->xs[i]? = some x,λi H=>∃xs,SqL K H a xs/\xs.length<=i⟩
def Itt(K:W.Frag)(a:Addr):It:= ⟨λi H=>∃xs x,SqT K H a xs/\xs[i]? = some x,λi H x H'=>H'=H/\∀xs,SqT K H a xs->xs[i]? = some x,λi H=>∃xs,SqT K H a xs/\xs.length<=i⟩
def Itr(lo:Int)(n:Nat):It:=⟨λi _=>i<n,λi H x H'=>H'=H/\x=.int (lo+i),λi _=>n<=i⟩
theorem za9{P:Program}{w:World}{K:W.Frag}{tg:Expr}(a it:Addr):zbX P w K tg (Itl K a) [it] it (λi h=>h.IsListIter it a i) where
 mem:=by simp
 obj:=λi h st b hb=>by
  have e:b=it:=by simpa using hb
  subst e;obtain⟨o,e,c,d⟩:=st;exact⟨o,e,λv z=>by rw[d]at z;cases z⟩
 keep:=λi h h' st k=>st.at λo e=>k it (by simp) o e;item:=by
  intro X hP hw hK hc i pins s O H E I hf st hg;subst hP hw hK;obtain⟨xs,x,hq,hx⟩:=hg;obtain⟨its,rv,p,hz⟩:=I.list hq;obtain⟨u,hu,ru⟩:=rv.get hx;obtain⟨f0,f1,f2,f3,f4,f5⟩:=hf it (by simp);refine wpAny_pyNext_list_item st p.isList (x:=u) (by simpa using hu) λh' st' sb=>?_;have I1:Inv X pins O H {s with heap:=h'}:=I.turned (t':=s.toks) (λb o hb e=>(sb.2 b hb).trans e) f0 f1 f3 f4 f5;obtain⟨o,e,c,d⟩:=id st';exact⟨u,rfl,z8I (s:={s with heap:=h'}) e c d (by decide) ⟨x,H,I1,ru,⟨rfl,λys hy=>by rw[I.list_inj hy hq];exact hx⟩,st',λb hb=>(hf b hb).1⟩⟩
 done:=by
  intro X hP hw hK hc i pins s O H E I hf st hg;subst hP hw hK;obtain⟨xs,hq,hx⟩:=hg;obtain⟨its,rv,p,hz⟩:=I.list hq;obtain⟨f0,f1,f2,f3,f4,f5⟩:=hf it (by simp);have hl:=rv.length;exact wpAny_pyNext_list_end (I.ok.hd hc) st p.isList (by simp;omega) λh' eb=>⟨rfl,I.turned (t':=s.toks) (λb o hb e=>eb b o hb e) f0 f1 f3 f4 f5⟩
 self:=λ_ _ _ _ _ st h=>wpAny_pyIter_listiter st h
theorem z8h {P:Program} {w:World} {K:W.Frag} {tg:Expr} (a it:Addr):zbX P w K tg (Itt K a) [it] it (λi h=>h.IsTupleIter it a i) where
 mem:=by simp
 obj:=λi h st b hb=>by
  have e:b=it:=by simpa using hb
  subst e;obtain⟨o,e,c,d⟩:=st;exact⟨o,e,λv z=>by rw[d]at z;cases z⟩
 keep:=λi h h' st k=>st.at λo e=>k it (by simp) o e;item:=by
  intro X hP hw hK hc i pins s O H E I hf st hg;subst hP hw hK;obtain⟨xs,x,hq,hx⟩:=hg;obtain⟨its,rv,p,hz⟩:=I.tuple hq;obtain⟨u,hu,ru⟩:=rv.get hx;obtain⟨f0,f1,f2,f3,f4,f5⟩:=hf it (by simp);refine wpAny_pyNext_tuple_item st (show s.heap.IsTuple a its.toArray from p) (x:=u) (by simpa using hu) λh' st' sb=>?_;have I1:Inv X pins O H {s with heap:=h'}:=I.turned (t':=s.toks) (λb o hb e=>(sb.2 b hb).trans e) f0 f1 f3 f4 f5;obtain⟨o,e,c,d⟩:=id st';exact⟨u,rfl,z8I (s:={s with heap:=h'}) e c d (by decide) ⟨x,H,I1,ru,⟨rfl,λys hy=>by rw[I.tuple_inj hy hq];exact hx⟩,st',λb hb=>(hf b hb).1⟩⟩
 done:=by
  intro X hP hw hK hc i pins s O H E I hf st hg;subst hP hw hK;obtain⟨xs,hq,hx⟩:=hg;obtain⟨its,rv,p,hz⟩:=I.tuple hq;obtain⟨f0,f1,f2,f3,f4,f5⟩:=hf it (by simp);have hl:=rv.length;exact wpAny_pyNext_tuple_end (I.ok.hd hc) st (show s.heap.IsTuple a its.toArray from p) (by simp;omega) λh' eb=>⟨rfl,I.turned (t':=s.toks) (λb o hb e=>eb b o hb e) f0 f1 f3 f4 f5⟩
 self:=λ_ _ _ _ _ st h=>wpAny_pyIter_tupleiter st h
theorem z7V {P:Program} {w:World} {K:W.Frag} {tg:Expr} (it:Addr) (lo:Int) (n:Nat):zbX P w K tg (Itr lo n) [it] it (λi h=>IsRangeIter h it (lo+(i:Nat)*1) ((n:Int)-(i:Nat)) 1) where
 mem:=by simp
 obj:=λi h st b hb=>by
  have e:b=it:=by simpa using hb
  subst e;exact⟨_,st,λv z=>by
   have z':Data.fields _=Data.cell v:=z;cases z'⟩
 keep:=λi h h' st k=>k it (by simp) _ st;item:=by
  intro X hP hw hK hc i pins s O H E I hf st hg;subst hP hw hK;obtain⟨f0,f1,f2,f3,f4,f5⟩:=hf it (by simp);have W:=Walks.range (prog:=X.prog) (w:=X.w) (I.ok.hd hc) it lo 1 n;refine W.item i s _ _ hg st λv h' tk hv st' kk=>?_;obtain⟨t,rfl⟩:=hv;have I1:Inv X pins O H {s with heap:=h',toks:=tk}:=I.turned (λb o hb e=>kk b o (by simpa using hb) e) f0 f1 f3 f4 f5;refine⟨_,rfl,z8I (s:={s with heap:=h',toks:=tk}) (n:="range_iterator") st' rfl rfl (by decide) ⟨.int (lo+i),H,I1,⟨t,?_⟩,⟨rfl,rfl⟩,st',λb hb=>(hf b hb).1⟩⟩;rw[Int.mul_one]
 done:=by
  intro X hP hw hK hc i pins s O H E I hf st hg;subst hP hw hK;obtain⟨f0,f1,f2,f3,f4,f5⟩:=hf it (by simp);exact wpAny_pyNext_range_end (I.ok.hd hc) st (by have:n<=i:=hg;omega) λh' eb=>⟨rfl,I.turned (t':=s.toks) (λb o hb e=>eb b o hb e) f0 f1 f3 f4 f5⟩
 self:=λ_ _ _ _ _ st h=>wpAny_pyIter_rangeiter st h
section
variable {X:Cx}{tg:Expr}
theorem z6y{pins:List (Addr×Obj)}{O:St}{H:Hp}{s:Shared}{R:It->Hp->Prop}{E:Value->Shared->Prop}{lo hi:Int}{t u v:Tok}{tk:Nat}(I:Inv X pins O H s)(h1:-(2 ^ 62)<=lo)(h2:lo<2 ^ 62)(h3:-(2 ^ 62)<=hi)(h4:hi<2 ^ 62) (q:R (Itr lo (hi-lo).toNat) H):wpAny (model X.prog X.w) X.A (pyIter (.ref s.heap.objs.size)) (PIE X pins O tg R) E {s with heap:=s.heap.push {cls:=.type "range",data:=.fields #[.int lo t,.int hi u,.int 1 v]},toks:=tk}:=by
 refine wpAny_pyIter_range (IsRange.new ..) (small_one h1 h2 h3 h4) ?_;have I1:Inv X pins O H {s with heap:=s.heap.push {cls:=.type "range",data:=.fields #[.int lo t,.int hi u,.int 1 v]},toks:=tk}:=I.kept λb o e=>_c _ e;refine⟨(s.heap.push {cls:=.type "range",data:=.fields #[.int lo t,.int hi u,.int 1 v]}).objs.size,[(s.heap.push {cls:=.type "range",data:=.fields #[.int lo t,.int hi u,.int 1 v]}).objs.size],_,_,H,rfl, I1.kept (t':=tk) λb o e=>_c _ e,z7V _ lo (hi-lo).toNat,?_,λb hb=>?_,q⟩
 ·have e1:lo+((0:Nat):Int)*1=lo:=by simp
  have e2:(((hi-lo).toNat:Nat):Int)-((0:Nat):Int)=Builtin.Range.rangeSize lo hi 1:=by rw[rangeSize_one];split<;>omega
  show IsRangeIter _ _ (lo+((0:Nat):Int)*1) ((((hi-lo).toNat:Nat):Int)-((0:Nat):Int)) 1;rw[e1,e2];exact _g _ rfl
 ·have e:b=(s.heap.push {cls:=.type "range",data:=.fields #[.int lo t,.int hi u,.int 1 v]}).objs.size:=by simpa using hb
  subst e;exact I1.fpOk (_h _) (I1.hok.fresh (_h _))
def zj1(ta:TA):TI:=λO H R=>ta O H λvs H1=>∃j:Int,vs=[.int j]/\-(2 ^ 62)<=j/\j<2 ^ 62/\R (Itr 0 j.toNat) H1
def zjK(ta:TA):TI:=λO H R=>ta O H λvs H1=>∃i j:Int,vs=[.int i,.int j]/\(-(2 ^ 62)<=i/\i<2 ^ 62/\-(2 ^ 62)<=j/\j<2 ^ 62)/\R (Itr i (j-i).toNat) H1
theorem zb8{a:Expr}{ta:TA}{p pos:Pos}(hg:Gl X "range")(hm:X.mg "range"=none)(ha:PA X [a] ta)(hs:starEach [a] X.env=[(false,eval a X.env)]:=by rfl):PI X tg (.Call (.Name "range" p) [a] [] pos) (zj1 ta):=by
 intro pins s O H R I h;refine Call_ (kQ I hg hm boot_range (_ao (thn (ha pos pins s O H _ I h) λus s1 ⟨vs,H1,I1,r1,q1⟩=>?_) hs rfl));obtain⟨j,e,q1,q2,q⟩:=q1;subst e;cases r1 with | cons r rr=>
  cases rr;obtain⟨t,rfl⟩:=r;exact call_range_1 (z6y I1 (by omega) (by omega) q1 q2 (by simpa using q))
theorem z9t{a b:Expr}{ta:TA}{p pos:Pos}(hg:Gl X "range")(hm:X.mg "range"=none)(ha:PA X [a,b] ta)(hs:starEach [a,b] X.env=[(false,eval a X.env),(false,eval b X.env)]:=by rfl)(hs2:starEach [b] X.env=[(false,eval b X.env)]:=by rfl): PI X tg (.Call (.Name "range" p) [a,b] [] pos) (zjK ta):=by
 intro pins s O H R I h;refine Call_ (kQ I hg hm boot_range (_ao (thn (ha pos pins s O H _ I h) λus s1 ⟨vs,H1,I1,r1,q1⟩=>?_) (by rw[hs,hs2]) (by rw[hs2];rfl)));obtain⟨i,j,e,⟨q1,q2,q3,q4⟩,q⟩:=q1;subst e;cases r1 with | cons r rr=> cases rr with | cons r' rr=>
   cases rr;obtain⟨t,rfl⟩:=r;obtain⟨t',rfl⟩:=r';exact call_range_2 (z6y I1 q1 q2 q3 q4 q)
def zlm(wi:TI)(g:TG)(tb:TS):TS:=λD O H=>wi O H λJ H1=>∃W:Nat->Nat->St->Hp->Prop,(∃m,W 0 m O H1)/\∀i m O H,W i m O H-> (J.stop i H/\D.nx O H)\/(J.go i H/\∃N:St->Hp->Prop,(∀O' H',N O' H'->∃m',m'<m/\W (i+1) m' O' H')/\∀x H',J.yld i H x H'->g x O H' λO2 H2=>tb {D with nx:=N,ct:=N,bk:=D.nx} O2 H2)
def z21(fp:List Addr)(h:Heap):List (Addr×Obj):=fp.filterMap λb=>(h.get? b).map λo=>(b,o)
theorem vn{fp:List Addr}{h:Heap}{b:Addr}{o:Obj}(hb:b∈fp)(e:h.get? b=some o):(b,o)∈z21 fp h:=_bs.mpr ⟨b,hb,by rw[e];rfl⟩
theorem z9O{fp:List Addr}{h:Heap}{p:Addr×Obj}(hp:p∈z21 fp h):p.1∈fp/\h.get? p.1=some p.2:=by
 obtain⟨b,hb,e⟩:=_bs.mp hp;cases q:h.get? b with
 | none=>rw[q]at e;cases e | some o=>
  rw[q]at e;have e':(b,o)=p:=_E e;subst e';exact⟨hb,q⟩
theorem Inv.pinned{pins:List (Addr×Obj)}{O:St}{H:Hp}{s:Shared}{fp:List Addr}(I:Inv X pins O H s)(hf:∀b∈fp,z2a X pins H b)(ho:∀b∈fp,∃o,s.heap.get? b=some o/\∀v,o.data≠.cell v):Inv X (pins++z21 fp s.heap) O H s:= I.pins_of λp hp=>(_M.mp hp).elim (λz=>I.pin p (_B _ z)) λz=>by
  obtain⟨hb,e⟩:=z9O z;obtain⟨f0,f1,f2,_⟩:=hf p.1 hb;obtain⟨o,e',d⟩:=ho p.1 hb;rw[e]at e';cases e';exact⟨e,f0,f1,f2,d⟩
theorem Inv.unpinned{pins pl:List (Addr×Obj)}{O:St}{H:Hp}{s:Shared}(I:Inv X (pins++pl) O H s):Inv X pins O H s:=I.pins_of λp hp=>I.pin p (_B _ (_aK _ hp))
theorem zhC{iter:Expr}{body:List Stmt}{wi:TI}{g:TG}{tb:TS}{pos:Pos}(hp:PassesOwn (model X.prog X.w) X.A X.env X.xe)(hc:X.calm=true)(hi:PI X tg iter wi)(hg:PG X tg g)(hb:PSs X body tb) (hs:∀x,foldedSetIterable iter X.env x=pure x:=by intro _;rfl):PS X (.For tg iter body [] pos) (zlm wi g tb):=by
 intro pins s O H D I h;refine wpAny_For (thn (hi pins s O H _ I h) λv s1 h1=>thn h1 λitv s2 h2=>?_) hs;obtain⟨it,fp,tn,J,H2,e,I2,T,st2,f2,W,⟨m0,w0⟩,turn⟩:=h2;subst e;have stat:∀{H':Hp},(∀b∈fp,H' b=none)->∀b∈fp,z2a X pins H' b:=λhn b hb=>⟨hn b hb,(f2 b hb).2⟩;refine codeAny_forLoop_any (λn s'=>∃i O' H',Inv X pins O' H' s'/\tn i s'.heap/\(∀b∈fp,H' b=none)/\W i n O' H') ?_ m0 ⟨0,O,H2,I2,st2,λb hb=>(f2 b hb).1,w0⟩;rintro n s3 ⟨i,O3,H3,I3,st3,fr3,w3⟩;rcases turn i n O3 H3 w3 with⟨stop,qn⟩ | ⟨go,N,hN,step⟩
 ·refine _bg hp (thn (T.done X rfl rfl rfl hc i pins s3 O3 H3 X.xe I3 (stat fr3) st3 stop) λr s4 ⟨hr,I4⟩=>?_);subst hr;exact _cH ⟨O3,H3,I4,qn⟩
 ·refine _bg hp (thn (T.item X rfl rfl rfl hc i pins s3 O3 H3 X.xe I3 (stat fr3) st3 go) λr s4 ⟨u,hr,h4⟩=>?_);subst hr;refine _bg hp (thn h4 λ_ s5 ⟨x,H5,I5,r5,y5,st5,fr5⟩=>?_);have I5':=I5.pinned (stat fr5) (T.obj _ _ st5);refine _bg hp (thn (hg _ s5 O3 H5 x u _ I5' r5 (step x H5 y5)) λ_ s6 ⟨O6,H6,I6,q6⟩=>?_);refine _bg hp (thn (hb _ s6 O6 H6 _ I6 q6) λf s7 q7=>?_);have again:∀{O7:St}{H7:Hp},Inv X (pins++z21 fp s5.heap) O7 H7 s7->N O7 H7->∃m,m<n/\∃i O' H',Inv X pins O' H' s7/\tn i s7.heap/\(∀b∈fp,H' b=none)/\W i m O' H':=λ{O7 H7} I7 n7=>by
   obtain⟨m',hm,w7⟩:=hN O7 H7 n7;refine⟨m',hm,i+1,O7,H7,I7.unpinned,T.keep _ _ _ st5 λb hb o e=>(I7.pin (b,o) (_B _ (_B _ (vn hb e)))).1,λb hb=>?_,w7⟩;obtain⟨o,e,d⟩:=T.obj _ _ st5 b hb;exact (I7.pin (b,o) (_B _ (_B _ (vn hb e)))).2.1
  cases f with
  | next=>obtain⟨O7,H7,I7,n7⟩:=q7;exact again I7 n7 | cont=>obtain⟨O7,H7,I7,n7⟩:=q7;exact again I7 n7 | brk=>obtain⟨O7,H7,I7,q7⟩:=q7;exact⟨O7,H7,I7.unpinned,q7⟩ | ret v=>obtain⟨x7,O7,H7,I7,r7,q7⟩:=q7;exact⟨x7,O7,H7,I7.unpinned,r7,q7⟩
end
abbrev R2:=V->V->Hp->VK->Prop
def OpR(X:Cx)(f:Value->Value->Sem Value)(r:R2):Prop:= ∀(pins:List (Addr×Obj))(s:Shared)(O:St)(H:Hp)(x y:V)(v u:Value)(Q:VK),Inv X pins O H s->yg x v->yg y u->r x y H Q-> wpAny (model X.prog X.w) X.A (f v u) (EP X pins O Q) X.xe s
def UnR(X:Cx)(f:Value->Sem Value)(r:V->Hp->VK->Prop):Prop:= ∀(pins:List (Addr×Obj))(s:Shared)(O:St)(H:Hp)(x:V)(v:Value)(Q:VK),Inv X pins O H s->yg x v->r x H Q-> wpAny (model X.prog X.w) X.A (f v) (EP X pins O Q) X.xe s
def yN(X:Cx)(f:Value)(r:List V->Hp->VK->Prop):Prop:= ∀(pins:List (Addr×Obj))(s:Shared)(O:St)(H:Hp)(xs:List V)(us:List Value)(Q:VK),Inv X pins O H s->yd xs us->r xs H Q-> wpAny (model X.prog X.w) X.A (call f us) (EP X pins O Q) X.xe s
def tOp(r:R2)(ta tb:TE):TE:=λO H Q=>ta O H λx H1=>tb O H1 λy H2=>r x y H2 Q
def tUn(r:V->Hp->VK->Prop)(ta:TE):TE:=λO H Q=>ta O H λx H1=>r x H1 Q
def rI(C:Int->Int->Prop)(g:Int->Int->V):R2:=λx y H Q=>∃i j,x=.int i/\y=.int j/\C i j/\Q (g i j) H
def rI0(g:Int->Int->V):R2:=λx y H Q=>∃i j,x=.int i/\y=.int j/\Q (g i j) H
def rU(g:Int->V):V->Hp->VK->Prop:=λx H Q=>∃i,x=.int i/\Q (g i) H
section
variable {X:Cx}{a b c:Expr}{ta tb tc:TE}{pos:Pos}
theorem zkg(ha:PE X a ta)(hb:PE X b tb){pins:List (Addr×Obj)}{s:Shared}{O:St}{H:Hp}{R:V->V->Hp->Prop}(I:Inv X pins O H s) (h:ta O H λx H1=>tb O H1 λy H2=>R x y H2){Q:Value->Shared->Prop}{f:Value->Value->Sem Value} (hf:∀v u s2 x y H2,Inv X pins O H2 s2->yg x v->yg y u->R x y H2->wpAny (model X.prog X.w) X.A (f v u) Q X.xe s2): wpAny (model X.prog X.w) X.A (eval a X.env) (λv s₁=>wpAny (model X.prog X.w) X.A (eval b X.env) (λu s₂=>wpAny (model X.prog X.w) X.A (f v u) Q X.xe s₂) X.xe s₁) X.xe s:=by
 refine thn (ha pins s O H _ I h) λv s1 ⟨x,H1,I1,r1,q1⟩=>?_;refine thn (hb pins s1 O H1 _ I1 q1) λu s2 ⟨y,H2,I2,r2,q2⟩=>?_;exact hf v u s2 x y H2 I2 r1 r2 q2
theorem ziR{op:Operator}{r:R2}(ho:OpR X (binaryOp op) r)(ha:PE X a ta)(hb:PE X b tb):PE X (.BinOp a op b pos) (tOp r ta tb):=by
 intro pins s O H Q I h;exact wpAny_BinOp (zkg ha hb I h λv u s2 x y H2 I2 rx ry q=>ho pins s2 O H2 x y v u Q I2 rx ry q)
theorem zid{op:UnaryOp}{r:V->Hp->VK->Prop}(ho:UnR X (unaryOp op) r)(ha:PE X a ta):PE X (.UnaryOp op a pos) (tUn r ta):=by
 intro pins s O H Q I h;exact UnaryOp_ (thn (ha pins s O H _ I h) λv s1 ⟨x,H1,I1,r1,q1⟩=>ho pins s1 O H1 x v Q I1 r1 q1)
theorem opI {f:Value->Value->Sem Value} {C:Int->Int->Prop} {g:Int->Int->Int} (rule:∀(i j:Int) (t u:Tok) (s:Shared) (Q:Value->Shared->Prop) (E:Value->Shared->Prop),C i j->Q (.int (g i j) s.toks) {s with toks:=s.toks+1}->wpAny (model X.prog X.w) X.A (f (.int i t) (.int j u)) Q E s): OpR X f (rI C λi j=>.int (g i j)):=by
 intro pins s O H x y v u Q I rx ry h;obtain⟨i,j,rfl,rfl,hc,q⟩:=h;obtain⟨t,rfl⟩:=rx;obtain⟨t',rfl⟩:=ry;exact rule i j t t' s _ _ hc ⟨.int (g i j),H,I.tok _,⟨_,rfl⟩,q⟩
theorem zkF {f:Value->Value->Sem Value} {g:Int->Int->Int} (rule:∀(i j:Int) (t u:Tok) (s:Shared) (Q:Value->Shared->Prop) (E:Value->Shared->Prop),Q (.int (g i j) s.toks) {s with toks:=s.toks+1}->wpAny (model X.prog X.w) X.A (f (.int i t) (.int j u)) Q E s): OpR X f (rI0 λi j=>.int (g i j)):=by
 intro pins s O H x y v u Q I rx ry h;obtain⟨i,j,rfl,rfl,q⟩:=h;obtain⟨t,rfl⟩:=rx;obtain⟨t',rfl⟩:=ry;exact rule i j t t' s _ _ ⟨.int (g i j),H,I.tok _,⟨_,rfl⟩,q⟩
theorem ziP{f:Value->Value->Sem Value}{g:Int->Int->Bool} (rule:∀(i j:Int)(t u:Tok)(s:Shared)(Q:Value->Shared->Prop)(E:Value->Shared->Prop),Q (.bool (g i j)) s->wpAny (model X.prog X.w) X.A (f (.int i t) (.int j u)) Q E s): OpR X f (rI0 λi j=>.bl (g i j)):=by
 intro pins s O H x y v u Q I rx ry h;obtain⟨i,j,rfl,rfl,q⟩:=h;obtain⟨t,rfl⟩:=rx;obtain⟨t',rfl⟩:=ry;exact rule i j t t' s _ _ ⟨.bl (g i j),H,I,rfl,q⟩
def zl0(i j:Int):Prop:=0<=j/\j<=1000000/\i.natAbs<2 ^ 64
theorem zhA:OpR X (binaryOp .Add) (rI0 λi j=>.int (i+j)):=zkF λ_ _ _ _ _ _ _ q=>add_int q
theorem zgw:OpR X (binaryOp .Sub) (rI0 λi j=>.int (i-j)):=zkF λ_ _ _ _ _ _ _ q=>sub_int q
theorem zgL:OpR X (binaryOp .Mod) (rI (λ_ j=>0<j) λi j=>.int (i % j)):=opI λi j _ _ _ _ _ hc q=>by
 have h1:(0:Int)<j:=hc;exact mod_int' (by omega) (by rw[Int.fmod_eq_emod_of_nonneg i (by omega)];exact q)
theorem zie:OpR X (binaryOp .Pow) (rI zl0 λi j=>.int (i ^ j.toNat)):=opI λ_ _ _ _ _ _ _ hc q=>pow_int_small hc.1 hc.2.1 hc.2.2 q
theorem unI {f:Value->Sem Value} {g:Int->Int} (rule:∀(i:Int) (t:Tok) (s:Shared) (Q:Value->Shared->Prop) (E:Value->Shared->Prop),Q (.int (g i) s.toks) {s with toks:=s.toks+1}->wpAny (model X.prog X.w) X.A (f (.int i t)) Q E s): UnR X f (rU λi=>.int (g i)):=by
 intro pins s O H x v Q I rx h;obtain⟨i,rfl,q⟩:=h;obtain⟨t,rfl⟩:=rx;exact rule i t s _ _ ⟨.int (g i),H,I.tok _,⟨_,rfl⟩,q⟩
theorem zdo:UnR X (unaryOp .USub) (rU λi=>.int (-i)):=unI λ_ _ _ _ _ q=>neg_int q
end
section
variable {X:Cx}{a b c:Expr}{ta tb tc:TE}{pos:Pos}
theorem zk9:OpR X (compareOp .Lt) (rI0 λi j=>.bl (decide (i<j))):=ziP λ_ _ _ _ _ _ _ q=>lt_int q
theorem ziT:OpR X (compareOp .LtE) (rI0 λi j=>.bl (decide (i<=j))):=ziP λ_ _ _ _ _ _ _ q=>le_int q
theorem zjG:OpR X (compareOp .Gt) (rI0 λi j=>.bl (decide (j<i))):=ziP λ_ _ _ _ _ _ _ q=>gt_int q
theorem zjP:OpR X (compareOp .GtE) (rI0 λi j=>.bl (decide (j<=i))):=ziP λ_ _ _ _ _ _ _ q=>ge_int q
theorem OpR.or{f:Value->Value->Sem Value}{r r':R2}(h:OpR X f r)(h':OpR X f r'):OpR X f (λx y H Q=>r x y H Q\/r' x y H Q):=by
 intro pins s O H x y v u Q I rx ry q;rcases q with q | q;·exact h pins s O H x y v u Q I rx ry q
 ·exact h' pins s O H x y v u Q I rx ry q
theorem zdU(b:Expr){op:CmpOp}(h:op≠.In:=by decide)(h2:op≠.NotIn:=by decide):behindInMarks op b=false:=by
 have e1:(op==CmpOp.In)=false:=by cases op<;>first | rfl | exact absurd rfl h
 have e2:(op==CmpOp.NotIn)=false:=by cases op<;>first | rfl | exact absurd rfl h2
 cases b<;>simp[behindInMarks,e1,e2]
theorem zaL{op:CmpOp}{r:R2}(ho:OpR X (compareOp op) r)(ha:PE X a ta)(hb:PE X b tb)(hm:behindInMarks op b=false):PE X (.Compare a [op] [b] pos) (tOp r ta tb):=by
 intro pins s O H Q I h;exact wpAny_Compare1 (zkg ha hb I h λv u s2 x y H2 I2 rx ry q=>ho pins s2 O H2 x y v u Q I2 rx ry q) hm
def zfa(t:TE):TT:=λO H Q=>t O H λx H'=>∃k,x=.bl k/\Q k H'
theorem zeW{op:CmpOp}{r:R2}(ho:OpR X (compareOp op) r)(ha:PE X a ta)(hb:PE X b tb)(hm:behindInMarks op b=false):PT X (.Compare a [op] [b] pos) (zfa (tOp r ta tb)):=by
 intro pins s O H Q I h;refine wpAny_isTrue_Compare1 (thn (ha pins s O H _ I h) λv s1 ⟨x,H1,I1,r1,q1⟩=>thn (hb pins s1 O H1 _ I1 q1) λu s2 ⟨y,H2,I2,r2,q2⟩=> thn (ho pins s2 O H2 x y v u _ I2 r1 r2 q2) λc s3 ⟨z,H3,I3,r3,k,e,q3⟩=>?_) hm;subst e;cases r3;exact _az ⟨H3,I3,q3⟩
def z97(r r':R2)(ta tb tc:TE):TE:=λO H Q=>ta O H λx H1=>tb O H1 λy H2=>r x y H2 λz H3=>∃k,z=.bl k/\ (if k=true then tc O H3 λw' H4=>r' y w' H4 Q else Q (.bl false) H3)
theorem zcr{op op':CmpOp}{r r':R2}(ho:OpR X (compareOp op) r)(ho':OpR X (compareOp op') r')(ha:PE X a ta)(hb:PE X b tb)(hc:PE X c tc) (hm:lastMarks [op,op'] [b,c]=false:=by with_unfolding_all rfl):PE X (.Compare a [op,op'] [b,c] pos) (z97 r r' ta tb tc):=by
 intro pins s O H Q I h;refine Compare_chain (thn (ha pins s O H _ I h) λv s1 ⟨x,H1,I1,r1,q1⟩=>chain_link (thn (hb pins s1 O H1 _ I1 q1) λu s2 ⟨y,H2,I2,r2,q2⟩=> thn (ho pins s2 O H2 x y v u _ I2 r1 r2 q2) λd s3 ⟨z,H3,I3,r3,k,e,q3⟩=>?_)) hm;subst e;cases r3;refine _az ?_;cases k with
 | false=>exact ite_ff ⟨.bl false,H3,I3,rfl,q3⟩ | true=>exact ite_tt (chain_last (thn (hc pins s3 O H3 _ I3 q3) λw' s4 ⟨z',H4,I4,r4,q4⟩=>ho' pins s4 O H4 y z' u w' Q I4 r2 r4 q4))
theorem zcy{op op':CmpOp}{r r':R2}(ho:OpR X (compareOp op) r)(ho':OpR X (compareOp op') r')(ha:PE X a ta)(hb:PE X b tb)(hc:PE X c tc) (hm:lastMarks [op,op'] [b,c]=false:=by with_unfolding_all rfl):PT X (.Compare a [op,op'] [b,c] pos) (zfa (z97 r r' ta tb tc)):=by
 intro pins s O H Q I h;refine isTrue_chain (thn (ha pins s O H _ I h) λv s1 ⟨x,H1,I1,r1,q1⟩=>test_link (thn (hb pins s1 O H1 _ I1 q1) λu s2 ⟨y,H2,I2,r2,q2⟩=> thn (ho pins s2 O H2 x y v u _ I2 r1 r2 q2) λd s3 ⟨z,H3,I3,r3,k,e,q3⟩=>?_)) hm;subst e;cases r3;refine _az ?_;cases k with
 | false=>
  obtain⟨k',e',q'⟩:=q3;cases e';exact ite_ff ⟨H3,I3,q'⟩ | true=>
  refine ite_tt (test_last (thn (hc pins s3 O H3 _ I3 q3) λw' s4 ⟨z',H4,I4,r4,q4⟩=>thn (ho' pins s4 O H4 y z' u w' _ I4 r2 r4 q4) λd' s5 ⟨z2,H5,I5,r5,k2,e2,q5⟩=>?_));subst e2;cases r5;exact _az ⟨H5,I5,q5⟩
theorem z73:(sizeLine:Nat)<2 ^ 63:=by rw[_aM];decide
theorem vals1{x:V}{us:List Value}(r:yd [x] us):∃u,us=[u]/\yg x u:=by cases r with | cons r1 r2=>cases r2;exact⟨_,rfl,r1⟩
theorem vals2{x y:V}{us:List Value}(r:yd [x,y] us):∃u w',us=[u,w']/\yg x u/\yg y w':=by cases r with | cons r1 r2=> cases r2 with | cons r3 r4=>cases r4;exact⟨_,_,rfl,r1,r3⟩
theorem zaa(hc:X.calm=true):yN X (.builtin "max") (λxs H Q=>∃i j,xs=[.int i,.int j]/\Q (.int (if j > i then j else i)) H):=by
 intro pins s O H xs us Q I r h;obtain⟨i,j,rfl,q⟩:=h;obtain⟨u,w',rfl,⟨t,rfl⟩,⟨t',rfl⟩⟩:=vals2 r;refine max_two_ints (I.ok.hd hc) λh' tk k=>⟨_,H,I.kept k,?_,q⟩;by_cases hj:j > i;·rw[_f hj,_f hj];exact⟨_,rfl⟩
 ·rw[_i hj,_i hj];exact⟨_,rfl⟩
theorem z8H(hc:X.calm=true):yN X (.builtin "min") (λxs H Q=>∃i j,xs=[.int i,.int j]/\Q (.int (if j<i then j else i)) H):=by
 intro pins s O H xs us Q I r h;obtain⟨i,j,rfl,q⟩:=h;obtain⟨u,w',rfl,⟨t,rfl⟩,⟨t',rfl⟩⟩:=vals2 r;refine min_two_ints (I.ok.hd hc) λh' tk k=>⟨_,H,I.kept k,?_,q⟩;by_cases hj:j<i;·rw[_f hj,_f hj];exact⟨_,rfl⟩
 ·rw[_i hj,_i hj];exact⟨_,rfl⟩
theorem zah:yN X (.type "int") (λxs H Q=>(∃i,xs=[.int i]/\Q (.int i) H)\/∃k,xs=[.bl k]/\Q (.int (if k then 1 else 0)) H):=by
 intro pins s O H xs us Q I r h;rcases h with⟨i,rfl,q⟩ | ⟨k,rfl,q⟩
 ·obtain⟨u,rfl,t,rfl⟩:=vals1 r;exact call_int_int ⟨.int i,H,I,⟨_,rfl⟩,q⟩
 ·obtain⟨u,rfl,r1⟩:=vals1 r;cases r1;exact call_int_bool ⟨.int (if k then 1 else 0),H,I.tok _,⟨_,rfl⟩,q⟩
end
structure zkl(h:Heap)(x dx C:Addr)(mA:Str->Option Value):Prop where
 obj:h.get? x=some (W.instObj C dx)
 ns:h.Ns1 dx mA
 ne:dx≠x
theorem zaI{h:Heap}{dx:Addr}{mA:Str->Option Value}(n:h.Ns1 dx mA):∃od,h.get? dx=some od/\∀name,W.lookIn name od=some (mA name):=by
 obtain⟨o,es,ep,ho,hd,hk,_,hm⟩:=n;refine⟨o,ho,λname=>?_⟩;have e:=hm name;unfold nsFind findBy at e;rw[<- Array.find?_toList]at e;unfold W.lookIn;rw[hd];dsimp only;split
 ·rename_i y q;rw[q]at e;exact _aq some e
 ·rename_i q;rw[q]at e;have a:es.toList.any (·.refKey)=false:=by
   rw[List.any_eq_false];intro y hy;obtain⟨z,t,hkey⟩:=hk y (_cz.mp hy);simp[DictEntry.refKey,hkey]
  have a':¬ es.toList.any (·.refKey)=true:=by rw[a];exact _R
  rw[_i a'];exact _aq some e
theorem zkl.look{h:Heap}{x dx C:Addr}{mA:Str->Option Value}(I:zkl h x dx C mA):∃od,W.InstAt h x (W.instObj C dx) C (some od)/\∀name,W.lookIn name od=some (mA name):= let ⟨od,ho,hl⟩:=zaI I.ns;⟨od,⟨I.obj,rfl,rfl,ho⟩,hl⟩
theorem z8r.some_of{v:V}{o:Option Value}(r:z8r (some v) o):∃u,o=some u/\yg v u:=by cases o with
 | none=>exact (show False from r).elim | some u=>exact⟨u,rfl,r⟩
section
variable {P:Program}{w:World}{H H':Hp}{h h':Heap}{a C dx:Addr}{fs fs':List (Str×V)}
theorem zfi(hok:HOk P w H h)(e:H a=some (.ins C dx fs)):∃mA,zkl h a dx C mA/\(∀f,z8r (fs.lookup f) (mA f))/\PySem.Within mA (fs.map (·.1))/\fs.length<=1000/\H dx=some (.own a):=by
 obtain⟨d,z,ne,ob,mA,n,r,q⟩:=(show yq P w H h a (.ins C dx fs) from hok a _ e);exact⟨mA,⟨ob,n,ne⟩,r,q,z,d⟩
end
structure Cls(K:W.Frag)(C:Addr):Prop where
 pg:W.plainGet K C Str.empty=true
 hd:W.hasDictIn K C=true
 po:W.plainOver K C=true
 sa:W.findIn K (.ref C) "__setattr__"=some (some (.builtin "object.__setattr__"))
theorem Cls.get{K:W.Frag}{C:Addr}(c:Cls K C)(f:Str):W.plainGet K C f=true:=c.pg
section
variable {X:Cx}{pins:List (Addr×Obj)}{O:St}{H:Hp}{s:Shared}{A:Around}{E:Value->Shared->Prop}{Q:Value->Shared->Prop}{c:Value}{b:Bool}
inductive z7C(K:W.Frag)(H:Hp):V->Value->Prop where | non:z7C K H .non (.type "NoneType") | bl (x:Bool):z7C K H (.bl x) (.type "bool") | int (i:Int):z7C K H (.int i) (.type "int") | str (x:Str):z7C K H (.str x) (.type "str") | flt (x:UInt64):z7C K H (.flt x) (.type "float") | lst {a:Addr}{xs:List V}(e:H a=some (.lst xs)):z7C K H (.ref a) (.type "list") | frz {a:Addr}{o:Obj}{xs:List V}(e:H a=some (.frz o (.lst xs))):z7C K H (.ref a) (.type "list") | tup {a:Addr}{xs:List V}(e:H a=some (.tup xs)):z7C K H (.ref a) (.type "tuple") | dK {a:Addr}{kvs:List (Key×V)}(e:H a=some (.dK kvs)):z7C K H (.ref a) (.type "dict") | dT {a:Addr}{kvs:List (List Key×V)}(e:H a=some (.dT kvs)):z7C K H (.ref a) (.type "dict") | ins {a C dx:Addr}{fs:List (Str×V)}(e:H a=some (.ins C dx fs))(cl:Cls K C)(ha:W.findIn K (.ref C) "__class__"=some (some (.builtin "object.__class__"))) (hn:W.specialIn K (.builtin "object.__class__") "__get__"=some (some (.builtin "getset_descriptor.__get__")))(htk:W.takesIn K (.builtin "object.__class__")=some true) (hm:W.mroIn K C (.type "object")=some true):z7C K H (.ref a) (.ref C)
theorem z9A {x:V} {u t:Value} (I:Inv X pins O H s) (rx:yg x u) (ty:z7C X.K H x t) (e:W.kitOne X.K t c=some b) (h:∀tk,Q (.bool b) {s with toks:=tk}): wpAny (model X.prog X.w) A (call (.builtin "isinstance") [u,c]) Q E s:=by cases ty with
 | non=>cases (show u=Value.none from rx);exact _bz W.kitx_none I.kIn True.intro e (λz=>nomatch z) h | bl y=>cases (show u=Value.bool y from rx);exact _bz W.kitx_bool I.kIn True.intro e (λz=>nomatch z) h | int i=>obtain⟨t,q⟩:=(show ∃t,u=Value.int i t from rx);cases q;exact _bz W.kitx_int I.kIn True.intro e (λz=>nomatch z) h | str y=>obtain⟨t,q⟩:=(show ∃t,u=Value.str y t from rx);cases q;exact _bz W.kitx_str I.kIn True.intro e (λz=>nomatch z) h | flt y=>obtain⟨t,q⟩:=(show ∃t,u=Value.float y t from rx);cases q;exact _bz W.kitx_float I.kIn True.intro e (λz=>nomatch z) h | @lst a xs ea=>
  cases (show u=Value.ref a from rx);obtain⟨_,_,n,_,h1⟩:=(show yq X.prog X.w H s.heap a (.lst xs) from I.hok a _ ea);exact _bz W.kitx_list I.kIn ⟨_,h1,rfl⟩ e (λz=>nomatch z) h | @frz a ob xs ea=>
  cases (show u=Value.ref a from rx);obtain⟨_,_,_,n,_,h1⟩:=(show yq X.prog X.w H s.heap a (.frz ob (.lst xs)) from I.hok a _ ea);exact _bz W.kitx_list I.kIn ⟨_,h1,rfl⟩ e (λz=>nomatch z) h | @tup a xs ea=>
  cases (show u=Value.ref a from rx);obtain⟨_,_,_,p⟩:=(show yq X.prog X.w H s.heap a (.tup xs) from I.hok a _ ea);obtain⟨o,h1,h2,_⟩:=p;exact _bz W.kitx_tuple I.kIn ⟨o,h1,h2⟩ e (λz=>nomatch z) h | @dK a kvs ea=>
  cases (show u=Value.ref a from rx);obtain⟨_,_,vs,_,p⟩:=(show yq X.prog X.w H s.heap a (.dK kvs) from I.hok a _ ea);obtain⟨o,es,ep,h1,h2,_⟩:=p;exact _bz W.kitx_dict I.kIn ⟨o,h1,h2.1⟩ e (λz=>nomatch z) h | @dT a kvs ea=>
  cases (show u=Value.ref a from rx);obtain⟨_,_,xs,_,o,es,ep,h1,h2,_⟩:=(show yq X.prog X.w H s.heap a (.dT kvs) from I.hok a _ ea);exact _bz W.kitx_dict I.kIn ⟨o,h1,h2.1⟩ e (λz=>nomatch z) h | @ins a C dx fs ea cl ha hn htk hm=>
  cases (show u=Value.ref a from rx);obtain⟨mA,Oo,_⟩:=zfi I.hok ea;obtain⟨od,J,_⟩:=Oo.look;exact _bz (W.kitx_own (cl.get _) cl.hd ha hn htk hm) I.kIn J e (λz=>nomatch z) h
end
structure z07(k:Nat)(A:Around):Prop where
 hd:A.handled=none
 dp:A.depth+3*k+5<recursionLimit
 un:A.units+16*k+200<cLine
 gd:A.guards=some []
theorem z07.mono{j k:Nat}{A:Around}(r:z07 k A)(h:j<=k):z07 j A:=⟨r.hd,by have:=r.dp;omega,by have:=r.un;omega,r.gd⟩
theorem z07.deeper{k:Nat}{A:Around}(r:z07 (k+1) A)(env:Env):z07 k (A.deeper env):= ⟨r.hd,by have:=r.dp;show A.depth+1+3*k+5<_;omega,by have:=r.un;show A.units+3+16*k+200<_;omega,r.gd⟩
theorem z07.depth{k:Nat}{A:Around}(r:z07 k A):A.depth<recursionLimit:=by have:=r.dp;omega
theorem z07.units{k:Nat}{A:Around}(r:z07 k A):A.units+64<cLine:=by have:=r.un;omega
def zkz:TA:=λ_ H Q=>Q [] H
def zjw(ta:TE)(tr:TA):TA:=λO H Q=>ta O H λx H1=>tr O H1 λxs H2=>Q (x::xs) H2
section
variable {X:Cx}{e:Expr}{es:List Expr}{te:TE}{t:TA}{pos:Pos}
theorem z0G:PA X [] zkz:=λ_ _ _ _ H Q I h=>_dc ⟨[],H,I,.nil,h⟩
theorem ut(ha:PE X e te)(hr:PA X es t)(hs:starEach (e::es) X.env=(false,eval e X.env)::starEach es X.env:=by rfl):PA X (e::es) (zjw te t):=by
 intro pos pins s O H Q I h;rw[hs];show wpAny _ _ (spliced ((false,eval e X.env)::backTo pos (starEach es X.env))) _ _ s;refine _bX (thn (ha pins s O H _ I h) λu s1 ⟨x,H1,I1,r1,q1⟩=>?_);exact thn (hr pos pins s1 O H1 _ I1 q1) λus s2 ⟨xs,H2,I2,r2,q2⟩=>⟨x::xs,H2,I2,.cons r1 r2,q2⟩
def zl7(t:TA):TE:=λO H Q=>t O H λxs H1=>xs.length<=sizeLine/\∀p,H1 p=none->Q (.ref p) (upd H1 p (.tup xs))
def zkU(t:TA):TE:=λO H Q=>t O H λxs H1=>xs.length<=sizeLine/\∀p,H1 p=none->Q (.ref p) (upd H1 p (.lst xs))
theorem zgS{x1}(h:PA X es t):PE X (.Tuple es x1 pos) (zl7 t):=by
 intro pins s O H Q I hq;refine wpAny_Tuple_spliced (thn (h pos pins s O H _ I hq) λus s1 ⟨xs,H1,I1,r,z,q⟩=>⟨by rw[<- r.length];exact z,?_⟩);have hf:H1 s1.heap.objs.size=none:=I1.hok.fresh (_h _);refine⟨.ref s1.heap.objs.size,upd H1 s1.heap.objs.size (.tup xs),I1.laid (t':=s1.toks) (λb u e=>_c _ e) (_h _) ?_,rfl,q _ hf⟩;exact⟨z,us,r,⟨_,_g _ rfl,rfl,rfl,_,rfl⟩⟩
theorem zdV(h:PA X es t):PE X (.List es pos) (zkU t):=by
 intro pins s O H Q I hq;refine wpAny_List_spliced (thn (h pos pins s O H _ I hq) λus s1 ⟨xs,H1,I1,r,z,q⟩=>⟨by rw[<- r.length];exact z,?_⟩);have hf:H1 s1.heap.objs.size=none:=I1.hok.fresh (_h _);refine⟨.ref s1.heap.objs.size,upd H1 s1.heap.objs.size (.lst xs),I1.laid (t':=s1.toks) (λb u e=>_c _ e) (_h _) ?_,rfl,q _ hf⟩;exact⟨z,us,0,r,_g _ rfl⟩
end
abbrev Sp:=List V->Hp->VK->XK->Prop
abbrev CXT:=List Env->Hp->Shared->XK->Value->Shared->Prop
structure ziK(P:Program)(w:World)(K:W.Frag)(mg:Str->Option Value)(base:Heap)(A:Around)(outer:List Env)(s:Shared)(H:Hp):Prop where
 frames:A.frames=some outer
 mod:Mod K mg base
 bs:∀b o,base.get? b=some o->s.heap.get? b=some o/\H b=none
 bsz:base.objs.size<=s.heap.objs.size
 funs:s.heap.FunFrames base outer
 frf:∀b∈frs outer,H b=none
 hok:HOk P w H s.heap
 bare:AllBare s.gens
def CE(outer:List Env)(P:Program)(w:World)(H:Hp)(s:Shared)(Q:VK)(u:Value)(s':Shared):Prop:= ∃v H',s'.os=s.os/\AllBare s'.gens/\Un (frs outer) [] H H' s.heap s'.heap/\HOk P w H' s'.heap/\yg v u/\Q v H'
def CR(CX:CXT)(outer:List Env)(P:Program)(w:World)(H:Hp)(s:Shared)(Q:VK)(E:XK)(r:Result)(s':Shared):Prop:= match r with
 | .ok (.ret u)=>CE outer P w H s Q u s' | .ok _=>False | .error e=>CX outer H s E e s'
structure z2R(P:Program)(w:World)(K:W.Frag)(mg:Str->Option Value)(base:Heap)(CX:CXT)(k:Nat)(f:Addr)(fd:FuncData)(ps:List Str)(sp:Sp):Prop where
 len:∀vs H Q E,sp vs H Q E->vs.length=ps.length
 run:∀(A:Around)(outer:List Env)(s:Shared)(H:Hp)(args:Args)(us:List Value)(vs:List V)(Q:VK)(E:XK),z07 k A->ziK P w K mg base A outer s H->BindsTo s fd args (ps.zip us)->yd vs us->sp vs H Q E-> codeAny (model P w) A (.call (.ref f) args) (CR CX outer P w H s Q E) s
theorem z2R.mono{P:Program}{w:World}{K:W.Frag}{mg:Str->Option Value}{base:Heap}{CX:CXT}{j k:Nat}{f:Addr}{fd:FuncData}{ps:List Str}{sp:Sp}(F:z2R P w K mg base CX j f fd ps sp)(h:j<=k): z2R P w K mg base CX k f fd ps sp:=⟨F.len,λA outer s H args us vs Q E hr=>F.run A outer s H args us vs Q E (hr.mono h)⟩
theorem z2R.imp{P:Program}{w:World}{K:W.Frag}{mg:Str->Option Value}{base:Heap}{CX:CXT}{k:Nat}{f:Addr}{fd:FuncData}{ps:List Str}{sp sp':Sp}(F:z2R P w K mg base CX k f fd ps sp) (h:∀vs H Q E,sp' vs H Q E->sp vs H Q E):z2R P w K mg base CX k f fd ps sp':= ⟨λvs H Q E q=>F.len vs H Q E (h _ _ _ _ q),λA outer s H args us vs Q E hr he hb hv hs=>F.run A outer s H args us vs Q E hr he hb hv (h _ _ _ _ hs)⟩
section
variable {X:Cx}{pins:List (Addr×Obj)}{O:St}{H:Hp}{s s':Shared}
theorem Inv.env0(I:Inv X pins O H s):ziK X.prog X.w X.K X.mg X.base X.A X.stack s H:= ⟨I.ok.frames,I.ok.mod,I.bs,_ad I.ok.bsz I.sz,I.stack,I.stkFree,I.hok,I.bare⟩
theorem Inv.after {Q:VK} {u:Value} (I:Inv X pins O H s) (h:CE X.stack X.prog X.w H s Q u s'):EP X pins O Q u s':=by
 obtain⟨v,H',os,bare,un,hok,r,q⟩:=h;obtain⟨hh,g,d,t,os'⟩:=s';obtain rfl:os'=s.os:=os;exact⟨v,H',I.call (h':=hh) (g':=g) (d':=d) (t':=t) (ch:=[]) un hok bare (λb z=>absurd z (by simp)),r,q⟩
end
def zh1(sp:Sp)(dvs:List V)(E:XK)(t:TA):TE:=λO H Q=>t O H λvs H1=>sp (vs++dvs) H1 Q E
def Binds(K:W.Frag)(fd:FuncData)(ps:List Str)(ds:List Value):Prop:= ∀(s:Shared)(us:List Value),K.In s.heap->(us++ds).length=ps.length->BindsTo s fd ⟨us,[]⟩ (ps.zip (us++ds))
theorem Binds.all{K:W.Frag}{fd:FuncData}{ps:List Str}(h:∀us:List Value,us.length=ps.length->bindArgs fd ⟨us,[]⟩=pure (ps.zip us)):Binds K fd ps []:=λs us _ hl=>by
 rw[_aQ]at hl ⊢;exact .of_eq (h us hl)
def Passes(CX:CXT)(X:Cx)(E:XK):Prop:=∀(pins:List (Addr×Obj))(O:St)(H:Hp)(s:Shared)(e:Value)(s':Shared),Inv X pins O H s->CX X.stack H s E e s'->X.xe e s'
section
variable {X:Cx}{CX:CXT}{k:Nat}{f C:Addr}{fd:FuncData}{ps:List Str}{sp:Sp}{dvs:List V}{ds:List Value}{E:XK}{x m:Str}{p pos apos:Pos}{e o:Expr}{es:List Expr}{ta:TE}{t:TA}
theorem zbg{pins:List (Addr×Obj)}{O:St}{H:Hp}{s:Shared}{Q:VK}{us:List Value}{vs:List V}(F:z2R X.prog X.w X.K X.mg X.base CX k f fd ps sp)(hr:z07 k X.A)(hb:Binds X.K fd ps ds)(hd:yd dvs ds)(hx:Passes CX X E) (I:Inv X pins O H s)(r:yd vs us)(h:sp (vs++dvs) H Q E):wpAny (model X.prog X.w) X.A (call (.ref f) us) (EP X pins O Q) X.xe s:=by
 have r2:yd (vs++dvs) (us++ds):=r.append hd;have hl:(us++ds).length=ps.length:=by rw[<- r2.length];exact F.len _ _ _ _ h
 refine wpAny_call (_bG (F.run X.A X.stack s H ⟨us,[]⟩ (us++ds) (vs++dvs) Q E hr I.env0 (hb s us I.kIn hl) r2 h) λr s' hq=>?_);cases r with
 | error e=>exact hx pins O H s e s' I hq | ok fl=> cases fl with
  | ret u=>exact I.after hq | next=>exact False.elim hq | brk=>exact False.elim hq | cont=>exact False.elim hq
theorem zeK (F:z2R X.prog X.w X.K X.mg X.base CX k f fd ps sp) (hr:z07 k X.A) (hg:Gl X x) (hm:X.mg x=some (.ref f)) (hk:W.keepIn X.K (.ref f)=true) (hb:Binds X.K fd ps ds) (hd:yd dvs ds) (hx:Passes CX X E) (ha:PA X (e::es) t) (hdb:(x==("__debug__":Str))=false:=by decide) (he:starEach (e::es) X.env=(false,eval e X.env)::starEach es X.env:=by rfl) (hpl:(backTo pos (starEach es X.env)).any (·.1)=false:=by rfl): PE X (.Call (.Name x p) (e::es) [] pos) (zh1 sp dvs E t):=by
 intro pins s O H Q I h;refine _aI (z6k I hg hm ?_ hdb);refine W.callWith_K (h₀:=X.base) I.ok.mod.kin hk (thn (ha pos pins s O H _ I h) λus s1 ⟨vs,H1,I1,r,q⟩=>⟨I1.kIn,?_⟩) he hpl;exact zbg F hr hb hd hx I1 r q
theorem zbq(F:z2R X.prog X.w X.K X.mg X.base CX k f fd ps sp)(hr:z07 k X.A)(hg:Gl X x)(hm:X.mg x=some (.ref f))(hk:W.keepIn X.K (.ref f)=true)(hb:Binds X.K fd ps ds)(hd:yd dvs ds)(hx:Passes CX X E) (hdb:(x==("__debug__":Str))=false:=by decide):PE X (.Call (.Name x p) [] [] pos) (zh1 sp dvs E zkz):=by
 intro pins s O H Q I h;refine _aI (z6k I hg hm ?_ hdb);exact W.callWith_K0 I.kIn hk (zbg (us:=[]) F hr hb hd hx I .nil h)
end
structure zu(N P:List Str)(sc:Scope):Prop where
 kind:sc.kind=.function
 co:sc.isCoroutine=false
 gen:sc.isGenerator=false
 nd:N.Nodup
 pre:N.take P.length=P
 par:∀x∈P,sc.names.lookup x=some .local\/sc.names.lookup x=some .cell
 nofree:∀y∈sc.names,y.2≠.free
theorem z4v{kindOf:Str->Option NameKind}{x:Str}:∀{binds:List (Str×Value)}{m:Str->Option Value},(∀v,(x,v)∉binds)->bindL kindOf binds m x=m x
 | [],_,_=>rfl | (n,v)::r,m,h=>by
  unfold bindL;rw[z4v λw hw=>h w (_C _ hw)];split
  ·have:x≠n:=by rintro rfl;exact h v _K
   simp[this]
  ·rfl
theorem z5c{kindOf:Str->Option NameKind}{x:Str}:∀{binds:List (Str×Value)}{m:Str->Option Value},(∀v,(x,v)∉binds)->bindC kindOf binds m x=m x
 | [],_,_=>rfl | (n,v)::r,m,h=>by
  unfold bindC;rw[z5c λw hw=>h w (_C _ hw)];split;·rfl
  ·have:x≠n:=by rintro rfl;exact h v _K
   simp[this]
theorem z45{kindOf:Str->Option NameKind}{x:Str}{v:Value}:∀{P:List Str}{vs:List Value}{i:Nat}{m:Str->Option Value},P.Nodup->P[i]? = some x->vs[i]? = some v->kindOf x=some .local-> bindL kindOf (P.zip vs) m x=some v
 | [],_,_,_,_,h,_,_=>by simp at h | _::_,[],_,_,_,_,h,_=>by simp at h | p::P,w::vs,0,m,nd,h1,h2,hk=>by
  simp at h1 h2;subst h1;subst h2;show bindL kindOf ((p,w)::P.zip vs) m p=_;unfold bindL;rw[z4v λv hv=>(_bS.mp nd).1 (_bT hv).1,_f hk];simp | p::P,w::vs,i+1,m,nd,h1,h2,hk=>by
  show bindL kindOf ((p,w)::P.zip vs) m x=_;unfold bindL;exact z45 (i:=i) (_bS.mp nd).2 (by simpa using h1) (by simpa using h2) hk
theorem z59{kindOf:Str->Option NameKind}{x:Str}{v:Value}:∀{P:List Str}{vs:List Value}{i:Nat}{m:Str->Option Value},P.Nodup->P[i]? = some x->vs[i]? = some v->kindOf x≠some .local-> bindC kindOf (P.zip vs) m x=some v
 | [],_,_,_,_,h,_,_=>by simp at h | _::_,[],_,_,_,_,h,_=>by simp at h | p::P,w::vs,0,m,nd,h1,h2,hk=>by
  simp at h1 h2;subst h1;subst h2;show bindC kindOf ((p,w)::P.zip vs) m p=_;unfold bindC;rw[z5c λv hv=>(_bS.mp nd).1 (_bT hv).1,_i hk];simp | p::P,w::vs,i+1,m,nd,h1,h2,hk=>by
  show bindC kindOf ((p,w)::P.zip vs) m x=_;unfold bindC;exact z59 (i:=i) (_bS.mp nd).2 (by simpa using h1) (by simpa using h2) hk
def start(N:List Str)(vs:List V):St:=vs.map some++List.replicate (N.length-vs.length) none
def zbl(CX:CXT)(P:Program)(w:World)(K:W.Frag)(mg:Str->Option Value)(base:Heap)(N:List Str)(qual:Str)(scope:Scope)(f:Addr)(cd:Value)(A:Around)(outer:List Env)(s:Shared)(H:Hp)(E:XK):Cx where
 prog:=P;w:=w;K:=K;mg:=mg;base:=base;A:=A.deeper (envOfC qual scope s.heap.objs.size f cd);N:=N;s₀:=s;H₀:=H;env:=envOfC qual scope s.heap.objs.size f cd;outer:=outer;stack:=envOfC qual scope s.heap.objs.size f cd::outer;ex:=[];calm:=A.handled.isNone;fn:=λ_=>true;pn:=[];xe:=λe s'=>wpAny (model P w) (A.deeper (envOfC qual scope s.heap.objs.size f cd)) (leaving (envOfC qual scope s.heap.objs.size f cd) e) (λ_ s''=>CX outer H s E e s'') (λe' s''=>CX outer H s E e' s'') s'
theorem z03{sc:Scope}{n:Nat}{x:Str}(h:sc.names.lookup x=some .cell):∃c,(cellsFrom n sc.names []).lookup x=some c:=by
 have q:=W.cellsFrom_some sc.names n [] (.inl h);exact _am.mp q
theorem z9W{CX:CXT}{P:Program}{w:World}{K:W.Frag}{mg:Str->Option Value}{base:Heap}{N ps:List Str}{qual:Str}{scope:Scope}{f:Addr}{cd:Value}{A:Around}{outer:List Env}{s s1:Shared}{H:Hp}{E:XK}{us:List Value}{vs:List V} (S:zu N ps scope)(e0:ziK P w K mg base A outer s H)(hl:vs.length=ps.length)(r:yd vs us) (x:InCallC s s.heap.objs.size (bindL (envOfC qual scope s.heap.objs.size f cd).kindOf (ps.zip us) λ_=>none) (cellsFrom (s.heap.objs.size+1) scope.names []) (bindC (envOfC qual scope s.heap.objs.size f cd).kindOf (ps.zip us) λ_=>none) s1): Inv (zbl CX P w K mg base N qual scope f cd A outer s H E) [] (start N vs) H s1:=by
 have hpl:ps.length<=N.length:=by have:=_aq List.length S.pre;rw[_cm]at this;omega
 obtain⟨h1,tk,rfl,hk⟩:=x.done;have noA:∀b:Addr,b∉(zbl CX P w K mg base N qual scope f cd A outer s H E).ex:=λb z=>absurd (show b∈([]:List Addr) from z) (by simp);refine⟨⟨e0.mod,S.kind,rfl,rfl,_h _,λy z c h1 h2=>?_,λy hy=>?_,λy c _ h=>?_,λh=>Option.isNone_iff_eq_none.mp h,Around.frames_deeper e0.frames,.inr ⟨rfl,rfl⟩,λb z=>absurd z (noA b),e0.bs,e0.bsz,λb _ _=>noA b,λb z=>absurd z (noA b),e0.funs,e0.frf⟩, rfl,e0.bare,Un.kept hk,⟨_,x.toInCall.ns,λi y v h1 h2 h3=>?_⟩,λy c h=>⟨_,x.cell y c h⟩,e0.hok.fresh (_h _),λy c h=>?_,λp hp=>absurd (show p∈([]:List (Addr×Obj)) from hp) (by simp),e0.hok.kept hk,?_⟩;·exact name_of_addr x.apart (_af h1) (_af h2)
 ·have hy:scope.names.lookup y=some .cell\/scope.names.lookup y=some .free:=hy;rcases hy with hy | hy;·exact z03 hy
  ·exact absurd rfl (S.nofree _ (_af hy))
 ·exact _b4 (x.above y c (_af h))
 ·have hi:i<vs.length:=by
   unfold start at h2;by_cases hi:i<vs.length;·exact hi
   ·rw[_aj (by simpa using hi)]at h2;rw[List.getElem?_replicate]at h2;split at h2<;>cases h2
  have ha:vs[i]? = some v:=by
   unfold start at h2;rw[_r (by simpa using hi),_S]at h2;cases e:vs[i]? with
   | none=>rw[e]at h2;cases h2 | some a=>rw[e]at h2;cases h2;rfl
  obtain⟨u,hu,rv⟩:=r.get ha;have hp:ps[i]? = some y:=by rw[<- S.pre,_aE (by omega)];exact h1
  have ndP:ps.Nodup:=by rw[<- S.pre];exact S.nd.sublist (_bE _ _)
  refine⟨u,rv,?_⟩;rcases S.par y (_y hp) with k | k;·exact .inl ⟨k,z45 ndP hp hu k⟩
  ·obtain⟨c,e⟩:=z03 (n:=s.heap.objs.size+1) k;refine .inr ⟨.inl k,c,e,?_⟩;have q:=x.cell y c e;rw[z59 ndP hp hu (by show scope.names.lookup y≠_;rw[k];decide)]at q;exact q
 ·exact e0.hok.fresh (_b4 (x.above y c (_af h)))
 ·unfold start;show _=N.length;rw[_al,_w,_cg];omega
theorem ziW {CX:CXT} {P:Program} {w:World} {K:W.Frag} {mg:Str->Option Value} {base:Heap} {k:Nat} {f:Addr} {name qual:Str} {params:Arguments} {body:List Stmt} {scope:Scope} {dV kV doc pm cdv ct oc:Value} {an od:Option Addr} {osl:Array (Option Value)} {N ps:List Str} {sp:Sp} (lk:K.lookup f=some ⟨oc,od,.func (W.fnOf name qual params body scope dV kV doc pm an cdv ct),osl⟩) (hcd:W.codeIn K cdv qual=true) (S:zu N ps scope) (len:∀vs H Q E,sp vs H Q E->vs.length=ps.length) (hbody:∀(A:Around) (outer:List Env) (s:Shared) (H:Hp) (vs:List V) (Q:VK) (E:XK),z07 k (A.deeper (envOfC qual scope s.heap.objs.size f cdv))->sp vs H Q E-> ∃t,PSs (zbl CX P w K mg base N qual scope f cdv A outer s H E) body t/\t {nx:=λ_ H'=>Q .non H',rt:=Q} (start N vs) H): z2R P w K mg base CX (k+1) f (W.fnOf name qual params body scope dV kV doc pm an cdv ct) ps sp:=by
 refine⟨len,λA outer s H args us vs Q E hr e0 hb r hsp=>?_⟩;have hl:=len _ _ _ _ hsp;have KX:K.In s.heap:=e0.mod.kin.keeps λb o e=>(e0.bs b o e).1;have lim:s.heap.NoLimit:=e0.mod.nolimit.keeps λb o e=>(e0.bs b o e).1;have hkind:∀y∈ps.zip us,scope.names.lookup y.1=some .local\/(scope.names.lookup y.1=some .cell/\((cellsFrom (s.heap.objs.size+1) scope.names []).lookup y.1).isSome=true):=λ⟨n,v⟩ hy=>by
  rcases S.par n (_bT hy).1 with q | q;·exact .inl q
  ·exact .inr ⟨q,W.cellsFrom_some _ _ _ (.inl q)⟩
 refine codeAny_call_function hr.depth (KX _ _ lk) rfl S.co S.gen rfl (W.codeRec_of KX hcd) (hb _ _ _ _ ?_);refine wpAny_newFunctionEnv_cells S.kind hkind λenv he s1 x=>?_;subst he;refine⟨lim.keeps x.toInCall.keep,codeAny_func ?_⟩;obtain⟨t,ht,hq⟩:=hbody A outer s H vs Q E (hr.deeper _) hsp;have I:Inv (zbl CX P w K mg base N qual scope f cdv A outer s H E) [] (start N vs) H s1:=z9W S e0 hl r x;refine _D (ht [] s1 (start N vs) H _ I hq) (λfl s' hs=>?_) λe s' hs=>hs;have fin:∀{O':St} {H':Hp} {v:V} {u:Value},Inv (zbl CX P w K mg base N qual scope f cdv A outer s H E) [] O' H' s'->yg v u->Q v H'->CE outer P w H s Q u s':= λ{O' H' v u} J rv q=>⟨v,H',J.os,J.bare,J.base,J.hok,rv,q⟩;cases fl with
 | ret u=>
  obtain⟨v,O',H',J,rv,q⟩:=hs;exact fin J rv q | next=>
  obtain⟨O',H',J,q⟩:=hs;exact fin (v:=V.non) (u:=Value.none) J rfl q | brk=>
  obtain⟨_,_,_,q⟩:=hs;exact False.elim q | cont=>
  obtain⟨_,_,_,q⟩:=hs;exact False.elim q
section
variable {X:Cx}{x:Str}{p pos:Pos}{e:Expr}{es:List Expr}{t:TA}{id T:String}{r:List V->Hp->VK->Prop}
def tCB(r:List V->Hp->VK->Prop)(t:TA):TE:=λO H Q=>t O H λvs H1=>r vs H1 Q
theorem z0a (hc:yN X (.builtin id) r) (hg:Gl X x) (hm:X.mg x=none) (hv:bootBuiltins x=some (.builtin id)) (ha:PA X (e::es) t) (hn:x≠"__name__":=by decide) (hdb:(x==("__debug__":Str))=false:=by decide) (he:starEach (e::es) X.env=(false,eval e X.env)::starEach es X.env:=by rfl) (hpl:(backTo pos (starEach es X.env)).any (·.1)=false:=by rfl):PE X (.Call (.Name x p) (e::es) [] pos) (tCB r t):=by
 intro pins s O H Q I h;refine _aI (kQ I hg hm hv ?_ hn hdb);exact PyProof.Rows.callWith_builtin1 (thn (ha pos pins s O H _ I h) λus s1 ⟨vs,H1,I1,r1,q1⟩=>hc pins s1 O H1 vs us Q I1 r1 q1) he hpl
theorem z4Q (hc:yN X (.type T) r) (hg:Gl X x) (hm:X.mg x=none) (hv:bootBuiltins x=some (.type T)) (ha:PA X (e::es) t) (hn:x≠"__name__":=by decide) (hdb:(x==("__debug__":Str))=false:=by decide) (he:starEach (e::es) X.env=(false,eval e X.env)::starEach es X.env:=by rfl) (hpl:(backTo pos (starEach es X.env)).any (·.1)=false:=by rfl):PE X (.Call (.Name x p) (e::es) [] pos) (tCB r t):=by
 intro pins s O H Q I h;refine _aI (kQ I hg hm hv ?_ hn hdb);exact _ao (thn (ha pos pins s O H _ I h) λus s1 ⟨vs,H1,I1,r1,q1⟩=>hc pins s1 O H1 vs us Q I1 r1 q1) he hpl
end
end L2
namespace HT
section
variable {prog:Program}{w:World}{A:Around}{E:Value->Shared->Prop}{s:Shared}
theorem zfz {t b:Addr} {vs ws:List Value} {Q:Value->Shared->Prop} (ht:IsTup s.heap t vs.toArray) (hb:IsTup s.heap b ws.toArray) (hv:vs≠[]) (h1:ws=[]->Q (.ref t) s) (h2:ws≠[]->Q (.ref s.heap.objs.size) {s with heap:=s.heap.push {cls:=.type "tuple",data:=.seq (vs++ws).toArray}}) (hsz:vs.length+ws.length<=sizeLine):wpAny (model prog w) A (binaryOp .Add (.ref t) (.ref b)) Q E s:=by
 obtain⟨⟨cls,dd,data,sl⟩,ho,hc,n,hd⟩:=id ht;obtain⟨⟨cls2,dd2,data2,sl2⟩,ho2,hc2,n2,hd2⟩:=id hb;simp only at hc hd hc2 hd2;subst hc hd hc2 hd2;have e:vs.toArray++ws.toArray=(vs++ws).toArray:=by simp
 by_cases hw:ws=[]
 ·exact concat_meets ⟨_,ho,rfl⟩ ⟨_,ho2,rfl⟩ _dw seq_tuple_add _b6 _b1 (_bL _ _) (tuple_addW1 t b vs.toArray ws.toArray n n2 dd dd2 sl sl2 (by simpa using hv) (by simp[hw])) ⟨ho,ho2,h1 hw⟩
 ·refine concat_meets ⟨_,ho,rfl⟩ ⟨_,ho2,rfl⟩ _dw seq_tuple_add _b6 _b1 (_bL _ _) (tuple_addW2 t b vs.toArray ws.toArray n n2 dd dd2 sl sl2 (by simpa using hv) (by simpa using hw) (by rw[_q,_q];exact hsz)) ⟨ho,ho2,?_⟩;rw[e];exact h2 hw
def sIx(n d:Nat):Option Int->Nat
 | none=>d | some v=>if v<0 then (v+(n:Int)).toNat else min v.toNat n
theorem z6U(n d:Nat):sIx n d none=d:=rfl
theorem z9P(n d k:Nat):sIx n d (some (k:Int))=min k n:=by
 show (if (k:Int)<0 then ((k:Int)+(n:Int)).toNat else min (k:Int).toNat n)=min k n;rw[_i (by omega),_aA]
theorem zhq(n d:Nat)(hd:d<=n)(o:Option Int):sIx n d o<=n:=by cases o with
 | none=>exact hd | some v=>
  show (if v<0 then (v+(n:Int)).toNat else min v.toNat n)<=n;by_cases hv:v<0;·rw[_f hv];omega
  ·rw[_i hv];exact Nat.min_le_right _ _
theorem z8U(v:Int)(n d:Nat):(if v<0 then max (v+(n:Int)) 0 else min v (n:Int))=((sIx n d (some v):Nat):Int):=by
 show (if v<0 then max (v+(n:Int)) 0 else min v (n:Int))=(((if v<0 then (v+(n:Int)).toNat else min v.toNat n):Nat):Int);by_cases hv:v<0;·simp only[_f hv];omega
 ·simp only[_i hv];omega
theorem z7Q(lo hi:Option Int)(n:Nat):Builtin.Slice.sliceAdjust lo hi 1 (n:Int)=(((sIx n 0 lo:Nat):Int),(sIx n n hi:Int)):=by
 have h1:¬ ((1:Int)<0):=by omega
 unfold Builtin.Slice.sliceAdjust;simp only[h1,_P];refine Prod.ext ?_ ?_;·cases lo with
  | none=>rfl | some v=>exact z8U v n 0
 ·cases hi with
  | none=>rfl | some v=>exact z8U v n n
theorem z89 (i j:Nat):Builtin.Slice.slicePlaces (i:Int) (j:Int) 1=j-i:=by
 unfold Builtin.Slice.slicePlaces;have h1:(1:Int) > 0:=by omega
 simp only[h1,_N,Int.ediv_one];split<;>omega
theorem z27{v:Value}{o:Option Int}{Q:Option Int->Shared->Prop}(p:IsPart v o)(h:Q o s):wpAny (model prog w) A (Builtin.Slice.slicePartIndex v) Q E s:=by cases p with
 | none=>exact slicePart_none h | int i t=>exact slicePart_int h
theorem vQ{sl:Addr}{vl vu:Value}{lo hi:Option Int}{n:Nat}{Q:Int×Int×Nat->Shared->Prop}(hs:s.heap.IsSliceOf sl vl vu .none)(pl:IsPart vl lo)(pu:IsPart vu hi) (h:Q (((sIx n 0 lo:Nat):Int),1,sIx n n hi-sIx n 0 lo) s):wpAny (model prog w) A (Builtin.Slice.sliceApplied (.ref sl) (pure (n:Int))) Q E s:=by
 obtain⟨os,hos,hcs,hds⟩:=id hs;unfold Builtin.Slice.sliceApplied Builtin.Slice.sliceFields;refine _a (_a (_ar hos hds (x:=vl) rfl (_a (_ar hos hds (x:=vu) rfl (_a (_ar hos hds (x:=.none) rfl (_b ?_)))))));refine _a (slicePart_none ?_);show wpAny _ _ (if ((1:Int)==0)=true then _ else _) _ _ s;rw[_i (by decide)];refine _a (z27 pl (_a (z27 pu (_a (_b ?_)))));show wpAny _ _ (match Builtin.Slice.sliceAdjust lo hi 1 (n:Int) with | (lo,hi)=>pure (lo,(1:Int),Builtin.Slice.slicePlaces lo hi 1)) _ _ s;rw[z7Q lo hi n];show wpAny _ _ (pure (((sIx n 0 lo:Nat):Int),(1:Int),Builtin.Slice.slicePlaces ((sIx n 0 lo:Nat):Int) (sIx n n hi:Int) 1)) _ _ s;rw[z89];exact _b h
theorem zcl(xs:Array Value)(i k:Nat):((List.range k).filterMap λ(m:Nat)=>xs[((i:Int)+(m:Int)*1).toNat]?).toArray=((xs.toList.drop i).take k).toArray:=by
 have e:(λ(m:Nat)=>xs[((i:Int)+(m:Int)*1).toNat]?)=λm=>xs[i+m]? := by
  funext m;have:((i:Int)+(m:Int)*1).toNat=i+m:=by omega
  rw[this]
 rw[e];have:=pick_run xs i k;rw[List.filterMap_map]at this;have e2:((λx=>xs[x]?) ∘ λx=>i+x)=λm=>xs[i+m]? := rfl;rw[e2]at this;rw[this]
theorem kc {t sl:Addr} {items:Array Value} {vl vu:Value} {lo hi:Option Int} {Q:Value->Shared->Prop} (ht:IsTup s.heap t items) (hs:s.heap.IsSliceOf sl vl vu .none) (pl:IsPart vl lo) (pu:IsPart vu hi) (hw:¬ (sIx items.size 0 lo=0/\sIx items.size items.size hi=items.size)) (h:Q (.ref s.heap.objs.size) {s with heap:=s.heap.push {cls:=.type "tuple",data:=.seq ((items.toList.drop (sIx items.size 0 lo)).take (sIx items.size items.size hi-sIx items.size 0 lo)).toArray}}) (hsz:items.size<=sizeLine):wpAny (model prog w) A (getItem (.ref t) (.ref sl)) Q E s:=by
 have htake:sizeOk (.seq ((items.toList.drop (sIx items.size 0 lo)).take (sIx items.size items.size hi-sIx items.size 0 lo)).toArray):=by
  show ((items.toList.drop (sIx items.size 0 lo)).take (sIx items.size items.size hi-sIx items.size 0 lo)).toArray.size<=sizeLine;rw[_q,_cm,_bH,_ae];omega
 have hj:sIx items.size items.size hi<=items.size:=zhq _ _ (_h _) hi;obtain⟨os,hos,hcs,hds⟩:=id hs;have hTs:s.TypeIs (.ref sl) "slice":=⟨os,hos,hcs⟩;unfold getItem;try with_reducible refine _X ?_
 first | refine _a (_b ?_) | skip
 refine _a (wpAny_sequenceKey ht.typeIs (by decide) ?_);refine _a (_U (name:=Str.ofString "__getitem__") ht.typeIs _ac (_I _ac ht.typeIs entry_tuple_getitem ?_ (args_tuple_getitem _ _)));show wpAny _ _ (Builtin.Tuple.tupleItemsOf (.ref t) >>= _) _ _ s;refine _a (tupleItemsOf_ ht ?_);refine _a (_b7 hTs ?_);rw[_f (by decide)];refine _a (vQ hs pl pu ?_);have hno:¬ ((((sIx items.size 0 lo:Nat):Int)==0&&(1:Int)==1&&(sIx items.size items.size hi-sIx items.size 0 lo)==items.size)=true):=by
  intro q;rw[_T,_T]at q;have q1:((sIx items.size 0 lo:Nat):Int)=0:=eq_of_beq q.1.1;have q2:sIx items.size items.size hi-sIx items.size 0 lo=items.size:=eq_of_beq q.2;exact hw ⟨by omega,by omega⟩
 show wpAny _ _ (if (((sIx items.size 0 lo:Nat):Int)==0&&(1:Int)==1&&(sIx items.size items.size hi-sIx items.size 0 lo)==items.size)=true then _ else _) _ _ s;rw[_i hno,zcl];first
  | exact _a (m:=Builtin.Tuple.tupleExact _) (_G (_b ⟨_,rfl,_b h⟩) htake) | exact _a (m:=Builtin.Tuple.tupleExact _) (_G (_a (_b (_b ⟨_,rfl,_b h⟩))) htake) | exact _a (_a (m:=Builtin.Tuple.tupleExact _) (_G (_b (_b ⟨_,rfl,_b h⟩)) htake)) | exact _a (_a (m:=Builtin.Tuple.tupleExact _) (_G (_b ⟨_,rfl,_b h⟩) htake))
end
end HT
namespace L2
abbrev TO:=St->Hp->(Option Int->Hp->Prop)->Prop
def PO(X:Cx)(e:Option Expr)(t:TO):Prop:= ∀(pins:List (Addr×Obj))(s:Shared)(O:St)(H:Hp)(Q:Option Int->Hp->Prop),Inv X pins O H s->t O H Q-> wpAny (model X.prog X.w) X.A (evalPart e X.env) (λu s'=>∃o H',Inv X pins O H' s'/\IsPart u o/\Q o H') X.xe s
def zfS:TO:=λ_ H Q=>Q none H
def zjn(t:TE):TO:=λO H Q=>t O H λx H1=>∃i,x=.int i/\Q (some i) H1
section
variable {X:Cx}{e:Expr}{te:TE}{lo hi:Option Expr}{tl th:TO}{pos p2:Pos}
theorem zeY:PO X none zfS:=by
 intro pins s O H Q I h;rw[evalPart_none];exact _b ⟨none,H,I,.none,h⟩
theorem zfy(h:PE X e te):PO X (some e) (zjn te):=by
 intro pins s O H Q I hw;rw[evalPart_some];refine thn (h pins s O H _ I hw) λu s1 ⟨x,H1,I1,r1,q1⟩=>?_;obtain⟨i,rfl,q⟩:=q1;obtain⟨t,rfl⟩:=r1;exact⟨some i,H1,I1,.int i t,q⟩
def SlR(X:Cx)(r:V->Option Int->Option Int->Hp->VK->Prop):Prop:= ∀(pins:List (Addr×Obj))(s:Shared)(O:St)(H:Hp)(x:V)(v vl vu:Value)(lo hi:Option Int)(sl:Addr)(Q:VK),Inv X pins O H s->yg x v->s.heap.IsSliceOf sl vl vu .none->IsPart vl lo->IsPart vu hi->r x lo hi H Q-> ∃T id,typeLookup (.type T) "__getitem__"=pure (some (.builtin id))/\s.TypeIs v T/\wpAny (model X.prog X.w) X.A (getItem v (.ref sl)) (EP X pins O Q) X.xe s
theorem SlR.or{r r':V->Option Int->Option Int->Hp->VK->Prop}(h:SlR X r)(h':SlR X r'):SlR X (λx lo hi H Q=>r x lo hi H Q\/r' x lo hi H Q):=by
 intro pins s O H x v vl vu lo hi sl Q I rx hs pl pu q;rcases q with q | q;·exact h pins s O H x v vl vu lo hi sl Q I rx hs pl pu q
 ·exact h' pins s O H x v vl vu lo hi sl Q I rx hs pl pu q
def tSl(r:V->Option Int->Option Int->Hp->VK->Prop)(te:TE)(tl th:TO):TE:=λO H Q=>te O H λx H1=>tl O H1 λl H2=>th O H2 λu H3=>r x l u H3 Q
theorem zcb{r:V->Option Int->Option Int->Hp->VK->Prop}(hr:SlR X r)(he:PE X e te)(hl:PO X lo tl)(hu:PO X hi th):PE X (.Subscript e (.Slice lo hi none p2) pos) (tSl r te tl th):=by
 intro pins s O H Q I h;refine Subscript_ (thn (he pins s O H _ I h) λv s1 ⟨x,H1,I1,r1,q1⟩=>?_);refine wpAny_Slice (thn (hl pins s1 O H1 _ I1 q1) λvl s2 ⟨l,H2,I2,pl,q2⟩=>thn (hu pins s2 O H2 _ I2 q2) λvu s3 ⟨u,H3,I3,pu,q3⟩=>?_);rw[evalPart_none];refine _b ?_;have I4:Inv X pins O H3 {s3 with heap:=s3.heap.push {cls:=.type "slice",data:=.fields #[vl,vu,.none]}}:=I3.kept (t':=s3.toks) λb ob q=>_c _ q;obtain⟨T,id,hT,ht,hg⟩:=hr pins {s3 with heap:=s3.heap.push {cls:=.type "slice",data:=.fields #[vl,vu,.none]}} O H3 x v vl vu l u s3.heap.objs.size Q I4 r1 (Heap.IsSliceOf.new ..) pl pu q3;show wpAny (model X.prog X.w) X.A (subscriptTail e (.Slice lo hi none p2) v (.ref s3.heap.objs.size)) (EP X pins O Q) X.xe {s3 with heap:=s3.heap.push {cls:=.type "slice",data:=.fields #[vl,vu,.none]}};exact tail_any (ops:=[.ref s3.heap.objs.size,v]) ht hT hg (by with_unfolding_all rfl)
def zdi(xs:List V)(lo hi:Option Int):List V:=(xs.drop (HT.sIx xs.length 0 lo)).take (HT.sIx xs.length xs.length hi-HT.sIx xs.length 0 lo)
theorem z0l(xs:List V)(lo hi:Option Int):(zdi xs lo hi).length<=xs.length:=by
 unfold zdi;rw[_cm,_bH];omega
def zlk(K:W.Frag):V->Option Int->Option Int->Hp->VK->Prop:=λx lo hi H Q=>∃a xs,x=.ref a/\SqT K H a xs/\ ¬ (HT.sIx xs.length 0 lo=0/\HT.sIx xs.length xs.length hi=xs.length)/\∀p,H p=none->Q (.ref p) (upd H p (.tup (zdi xs lo hi)))
theorem zhe:SlR X (zlk X.K):=by
 intro pins s O H x v vl vu lo hi sl Q I rx hs pl pu h;obtain⟨a,xs,rfl,hx,hw,q⟩:=h;cases rx;obtain⟨its,r,ht,hz⟩:=I.tuple hx;have hlen:its.toArray.size=xs.length:=by rw[_q];exact r.length.symm
 refine⟨"tuple",_,_ac.lookup,ht.typeIs,?_⟩;refine HT.kc ht hs pl pu (by rw[hlen];exact hw) ?_ (by rw[hlen];exact hz);rw[hlen];refine⟨.ref s.heap.objs.size,_,I.laid (t':=s.toks) (o:=.tup (zdi xs lo hi)) (λb ob q=>_c _ q) (_h _) ?_,rfl,q _ (I.hok.fresh (_h _))⟩;exact⟨_ad (z0l xs lo hi) hz,_,(r.drop (HT.sIx xs.length 0 lo)).take (HT.sIx xs.length xs.length hi-HT.sIx xs.length 0 lo),zbi.new _ _⟩
def zjr(K:W.Frag):R2:=λx y H Q=>∃a b xs ys,x=.ref a/\y=.ref b/\SqT K H a xs/\SqT K H b ys/\xs≠[]/\xs.length+ys.length<=sizeLine/\ (ys=[]->Q (.ref a) H)/\(ys≠[]->∀p,H p=none->Q (.ref p) (upd H p (.tup (xs++ys))))
theorem yd.nil_iff{xs:List V}{us:List Value}(r:yd xs us):us=[] ↔ xs=[]:=by cases r with
 | nil=>simp | cons _ _=>simp
theorem zeT:OpR X (binaryOp .Add) (zjr X.K):=by
 intro pins s O H x y v u Q I rx ry h;obtain⟨a,b,xs,ys,rfl,rfl,ha,hb,hx,hz,q1,q2⟩:=h;cases rx;cases ry;obtain⟨its,r1,p1,_⟩:=I.tuple ha;obtain⟨its2,r2,p2,_⟩:=I.tuple hb;refine HT.zfz p1 p2 (λz=>hx (r1.nil_iff.mp z)) (λz=>⟨.ref a,H,I,rfl,q1 (r2.nil_iff.mp z)⟩) (λz=>?_) (by rw[<- r1.length,<- r2.length];exact hz);refine⟨.ref s.heap.objs.size,_,I.laid (t':=s.toks) (o:=.tup (xs++ys)) (λb ob q=>_c _ q) (_h _) ?_,rfl,q2 (λw=>z (r2.nil_iff.mpr w)) _ (I.hok.fresh (_h _))⟩;exact⟨by rw[_al];exact hz,_,r1.append r2,zbi.new _ _⟩
end
def ixN(n:Nat)(i:Int):Option Nat:=if 0<=i then (if i<n then some i.toNat else none) else if -(n:Int)<=i then some (i+n).toNat else none
def atI{α:Type}(xs:List α)(i:Int):Option α:=(ixN xs.length i).bind λj=>xs[j]?
theorem z9l{n:Nat}{i:Int}{j:Nat}(h:ixN n i=some j):seqIndex? i n=some j/\j<n/\-(n:Int)<=i/\i<n:=by
 unfold ixN at h;by_cases h0:0<=i
 ·rw[_f h0]at h;by_cases h1:i<n
  ·rw[_f h1]at h;have e:i.toNat=j:=_E h;exact⟨by rw[seqIndex_of h0 h1,e],by omega,by omega,h1⟩
  ·rw[_i h1]at h;cases h
 ·rw[_i h0]at h;by_cases h1:-(n:Int)<=i
  ·rw[_f h1]at h;have e:(i+n).toNat=j:=_E h;exact⟨by rw[seqIndex_neg (by omega) h1,e],by omega,h1,by omega⟩
  ·rw[_i h1]at h;cases h
theorem z93{α:Type}{xs:List α}{i:Int}{v:α}(h:atI xs i=some v):∃j,seqIndex? i xs.length=some j/\xs[j]? = some v/\j<xs.length/\-(xs.length:Int)<=i/\i<xs.length:=by
 unfold atI at h;cases e:ixN xs.length i with
 | none=>rw[e]at h;cases h | some j=>
  rw[e]at h;obtain⟨h1,h2,h3,h4⟩:=z9l e;exact⟨j,h1,h,h2,h3,h4⟩
def z62(b:Expr):Prop:=∀o i,subscripted b false o i=operate [o,i] (getItem o i)
def IxR(X:Cx)(r:R2):Prop:= ∀(value slice:Expr)(pins:List (Addr×Obj))(s:Shared)(O:St)(H:Hp)(x y:V)(v u:Value)(Q:VK),Inv X pins O H s->yg x v->yg y u->r x y H Q-> subscripted slice false v u=operate [v,u] (getItem v u)->wpAny (model X.prog X.w) X.A (subscriptTail value slice v u) (EP X pins O Q) X.xe s
def MtR (X:Cx) (id:String) (r:V->List V->Hp->VK->Prop):Prop:= ∀(pins:List (Addr×Obj)) (s:Shared) (O:St) (H:Hp) (x:V) (xs:List V) (v:Value) (us:List Value) (Q:VK),Inv X pins O H s->yg x v->yd xs us->r x xs H Q-> wpAny (model X.prog X.w) X.A (call (.builtin id) (v::us)) (EP X pins O Q) X.xe s
section
variable {X:Cx}{a b:Expr}{ta tb:TE}{pos:Pos}
theorem IxR.or{r r':R2}(h:IxR X r)(h':IxR X r'):IxR X (λx y H Q=>r x y H Q\/r' x y H Q):=by
 intro value slice pins s O H x y v u Q I rx ry q hs;rcases q with q | q;·exact h value slice pins s O H x y v u Q I rx ry q hs
 ·exact h' value slice pins s O H x y v u Q I rx ry q hs
theorem zhp{r:R2}(hr:IxR X r)(ha:PE X a ta)(hb:PE X b tb)(hs:z62 b):PE X (.Subscript a b pos) (tOp r ta tb):=by
 intro pins s O H Q I h;exact Subscript_ (zkg ha hb I h λv u s2 x y H2 I2 rx ry q=>hr a b pins s2 O H2 x y v u Q I2 rx ry q (hs _ _))
def zli(K:W.Frag):R2:=λx y H Q=>∃p xs i v,x=.ref p/\y=.int i/\SqL K H p xs/\atI xs i=some v/\Q v H
def zkS(K:W.Frag):R2:=λx y H Q=>∃p xs i v,x=.ref p/\y=.int i/\SqT K H p xs/\atI xs i=some v/\Q v H
theorem zf3:IxR X (zli X.K):=by
 intro value slice pins s O H x y v u Q I rx ry h hs;obtain⟨p,xs,i,z,rfl,rfl,hq,he,q⟩:=h;cases rx;obtain⟨t,rfl⟩:=ry;obtain⟨its,r,pl,hz⟩:=I.list hq;obtain⟨j,h1,h2,h3,h4,h5⟩:=z93 he;obtain⟨w,ew,rw'⟩:=r.get h2;have hl:=r.length;have hn:=z73;have fin:EP X pins O Q w s:=⟨z,H,I,rw',q⟩;by_cases h0:0<=i
 ·have hj:i.toNat=j:=by
   rw[seqIndex_of h0 h5]at h1;exact _E h1
  exact item_listR pl.isList h0 (by omega) (by rw[hj];simpa using ew) fin hs
 ·have hj:(i+(its.toArray.size:Int)).toNat=j:=by
   rw[seqIndex_neg (by omega) h4]at h1;rw[_q,<- hl];exact _E h1
  exact _b8 (x:=w) pl.isList.typeIs _dd.lookup (wpAny_getItem_list_neg (Q:=λr s'=>r=w/\EP X pins O Q r s') pl.isList (by omega) (by rw[_q]<;>omega) (by omega) (by rw[hj];simpa using ew) ⟨rfl,fin⟩) hs
theorem zhM:IxR X (zkS X.K):=by
 intro value slice pins s O H x y v u Q I rx ry h hs;obtain⟨p,xs,i,z,rfl,rfl,hq,he,q⟩:=h;cases rx;obtain⟨t,rfl⟩:=ry;obtain⟨its,r,pl,hz⟩:=I.tuple hq;obtain⟨j,h1,h2,h3,h4,h5⟩:=z93 he;obtain⟨w,ew,rw'⟩:=r.get h2;have hl:=r.length;have hn:=z73;have fin:EP X pins O Q w s:=⟨z,H,I,rw',q⟩;exact _b8 (x:=w) pl.typeIs slot_tuple_getitem.lookup (getItem_tuple (j:=j) (Q:=λr s'=>r=w/\EP X pins O Q r s') pl (by omega) (by omega) (by rw[_q,<- hl];exact h1) (by simpa using ew) ⟨rfl,fin⟩) hs
theorem z7O (its:List Value) (n j:Nat) (u:Value):Obj.mapSeq (·.setIfInBounds j u) {cls:=.type "list",data:=.seq its.toArray n}={cls:=.type "list",data:=.seq (its.set j u).toArray n}:=by simp[Obj.mapSeq]
theorem Inv.lst{pins:List (Addr×Obj)}{O:St}{H:Hp}{s:Shared}{p:Addr}{xs:List V}(I:Inv X pins O H s)(h:H p=some (.lst xs)): ∃(its:List Value)(n:Nat),yd xs its/\s.heap.get? p=some {cls:=.type "list",data:=.seq its.toArray n}/\xs.length<=sizeLine:=by
 obtain⟨z,its,n,r,e⟩:=I.hok p _ h;exact⟨its,n,r,e,z⟩
theorem Inv.lstUpd {pins:List (Addr×Obj)} {O:St} {H:Hp} {s:Shared} {p:Addr} {xs ys:List V} {its its':List Value} {n n':Nat} {f:Obj->Obj} (I:Inv X pins O H s) (h:H p=some (.lst xs)) (ho:s.heap.get? p=some {cls:=.type "list",data:=.seq its.toArray n}) (hf:f {cls:=.type "list",data:=.seq its.toArray n}={cls:=.type "list",data:=.seq its'.toArray n'}) (r:yd ys its') (hz:ys.length<=sizeLine) (t:Nat): Inv X pins O (upd H p (.lst ys)) {s with heap:=s.heap.update p f,toks:=t}:=by
 have e:(s.heap.update p f).get? p=some {cls:=.type "list",data:=.seq its'.toArray n'}:=by rw[_an f ho (by rw[hf]<;>rfl),hf]
 refine I.write (x:=p) (e:=p) (by rw[h];trivial) (.inl rfl) (λb u hb q=>(_a5 _ _ (_a4 hb)).trans q) ⟨_,e⟩ ?_;exact⟨hz,its',n',r,e⟩
def zj6:V->V->V->Hp->(Hp->Prop)->Prop:=λo i v H Q=>∃p xs k j,o=.ref p/\i=.int k/\H p=some (.lst xs)/\ixN xs.length k=some j/\Q (upd H p (.lst (xs.set j v)))
theorem set_list:zkI X zj6:=by
 intro pins s O H o i v ov iv u Q I ro ri rv h;obtain⟨p,xs,k,j,rfl,rfl,hp,hj,q⟩:=h;cases ro;obtain⟨t,rfl⟩:=ri;obtain⟨its,n,r,ho,hz⟩:=I.lst hp;obtain⟨h1,h2,h3,h4⟩:=z9l hj;have hl:=r.length;have hn:=z73;have I':Inv X pins O (upd H p (.lst (xs.set j v))) {s with heap:=s.heap.update p (Obj.mapSeq (·.setIfInBounds j u))}:= I.lstUpd hp ho (z7O its n j u) (r.set rv j) (by rw[List.length_set];exact hz) s.toks;by_cases h0:0<=k
 ·have hk:k.toNat=j:=by
   rw[seqIndex_of h0 h4]at h1;exact _E h1
  exact W.ki_setAt ho h0 (by omega) (by rw[_q,<- hl];exact h4) (by rw[hk];exact⟨_,I',q⟩)
 ·have hk:(k+(its.toArray.size:Int)).toNat=j:=by
   rw[seqIndex_neg (by omega) h3]at h1;rw[_q,<- hl];exact _E h1
  exact W.ki_setBack ho (by omega) (by rw[_q,<- hl];exact h3) (by omega) (by rw[hk];exact⟨_,I',q⟩)
theorem z4y(lo hi:Option Int)(n:Nat):(sliceBounds lo hi none n).1=((HT.sIx n 0 lo:Nat):Int)/\(sliceBounds lo hi none n).2.1=(HT.sIx n n hi:Int)/\(sliceBounds lo hi none n).2.2=1:=by
 refine⟨?_,?_,rfl⟩;·cases lo with
  | none=>simp[sliceBounds,HT.sIx] | some i=>
   simp only[sliceBounds,HT.sIx,Option.getD_none,show (1:Int) > 0 by decide,_N];by_cases h:i<0;·simp only[h,_N]<;>omega
   ·simp only[h,_P]<;>omega
 ·cases hi with
  | none=>simp[sliceBounds,HT.sIx] | some i=>
   simp only[sliceBounds,HT.sIx,Option.getD_none,show (1:Int) > 0 by decide,_N];by_cases h:i<0;·simp only[h,_N]<;>omega
   ·simp only[h,_P]<;>omega
theorem z2x(its:List Value)(lo hi:Option Int):slicePick its.toArray lo hi none=((its.drop (HT.sIx its.length 0 lo)).take (HT.sIx its.length its.length hi-HT.sIx its.length 0 lo)).toArray:=by
 obtain⟨h1,h2,h3⟩:=z4y lo hi its.toArray.size;unfold slicePick;rw[h1,h2,h3];simp only[sliceRange_one,pick_run,_q]<;>rfl
def zl3(K:W.Frag):V->Option Int->Option Int->Hp->VK->Prop:=λx lo hi H Q=>∃a xs,x=.ref a/\SqL K H a xs/\∀p,H p=none->Q (.ref p) (upd H p (.lst (zdi xs lo hi)))
theorem zeo:SlR X (zl3 X.K):=by
 intro pins s O H x v vl vu lo hi sl Q I rx hs pl pu h;obtain⟨a,xs,rfl,hx,q⟩:=h;cases rx;obtain⟨its,r,ht,hz⟩:=I.list hx;have hlen:=r.length;refine⟨"list",_,_dd.lookup,ht.isList.typeIs,?_⟩;refine wpAny_getItem_list_slice ht.isList hs pl pu .none (by simp) ?_ (by rw[_q]<;>omega);rw[z2x,<- hlen];refine⟨.ref s.heap.objs.size,_,I.laid (t':=s.toks) (o:=.lst (zdi xs lo hi)) (λb ob q=>_c _ q) (_h _) ?_,rfl,q _ (I.hok.fresh (_h _))⟩;exact⟨_ad (z0l xs lo hi) hz,_,0,(r.drop (HT.sIx xs.length 0 lo)).take (HT.sIx xs.length xs.length hi-HT.sIx xs.length 0 lo),_g _ rfl⟩
def z1u:V->Bool
 | .non=>true | .bl _=>true | .int _=>true | .str _=>true | _=>false
def eqV:V->V->Bool
 | .non,.non=>true | .bl a,.bl b=>a==b | .bl a,.int b=>(if a then 1 else 0)==b | .int a,.bl b=>a==(if b then 1 else 0) | .int a,.int b=>a==b | .str a,.str b=>a==b | _,_=>false
theorem zhn{A:Around}{s:Shared}{y x:V}{u v:Value}(ry:yg y u)(rx:yg x v)(fy:z1u y=true)(fx:z1u x=true):SeqAt.EqAt A s u v (eqV y x):=by cases y with
 | non=>
  cases ry;cases x with
  | non=>cases rx;exact SeqAt.EqAt.same _ | bl b=>cases rx;exact SeqAt.EqAt.none_bool b | int b=>obtain⟨t,rfl⟩:=rx;exact SeqAt.EqAt.none_int b t | str b=>obtain⟨t,rfl⟩:=rx;exact SeqAt.EqAt.none_str b t | _=>exact absurd (show false=true from fx) _R
 | bl a=>
  cases ry;cases x with
  | non=>cases rx;exact SeqAt.EqAt.bool_none a | bl b=>cases rx;exact SeqAt.EqAt.bool_bool a b | int b=>obtain⟨t,rfl⟩:=rx;exact SeqAt.EqAt.bool_int a b t | str b=>obtain⟨t,rfl⟩:=rx;exact SeqAt.EqAt.bool_str a b t | _=>exact absurd (show false=true from fx) _R
 | int a=>
  obtain⟨t',rfl⟩:=ry;cases x with
  | non=>cases rx;exact SeqAt.EqAt.int_none a t' | bl b=>cases rx;exact SeqAt.EqAt.int_bool a t' b | int b=>obtain⟨t,rfl⟩:=rx;exact SeqAt.EqAt.int_int a t' b t | str b=>obtain⟨t,rfl⟩:=rx;exact SeqAt.EqAt.int_str a t' b t | _=>exact absurd (show false=true from fx) _R
 | str a=>
  obtain⟨t',rfl⟩:=ry;cases x with
  | non=>cases rx;exact SeqAt.EqAt.str_none a t' | bl b=>cases rx;exact SeqAt.EqAt.str_bool a t' b | int b=>obtain⟨t,rfl⟩:=rx;exact SeqAt.EqAt.str_int a t' b t | str b=>obtain⟨t,rfl⟩:=rx;exact SeqAt.EqAt.str_str a t' b t | _=>exact absurd (show false=true from fx) _R
 | _=>exact absurd (show false=true from fy) _R
def eqU(x:V)(u:Value):Bool:=match u with
 | .none=>eqV .non x | .bool b=>eqV (.bl b) x | .int i _=>eqV (.int i) x | .str z _=>eqV (.str z) x | _=>false
theorem zdm{x y:V}{u:Value}(r:yg y u)(f:z1u y=true):eqU x u=eqV y x:=by cases y with
 | non=>cases r;rfl | bl b=>cases r;rfl | int i=>obtain⟨t,rfl⟩:=r;rfl | str z=>obtain⟨t,rfl⟩:=r;rfl | _=>exact absurd (show false=true from f) _R
theorem z5Y{x:V}:∀{xs:List V}{us:List Value},yd xs us->xs.all z1u=true->us.any (eqU x)=xs.any λy=>eqV y x
 | _,_,.nil,_=>rfl | y::xs,u::us,.cons r t,f=>by
  rw[List.all_cons,_T]at f;rw[_bn,_bn,zdm r f.1,z5Y t f.2]
theorem z2z{A:Around}{s:Shared}{x:V}{v:Value}(rx:yg x v)(fx:z1u x=true):∀{xs:List V}{us:List Value},yd xs us->xs.all z1u=true->∀u∈us,SeqAt.EqAt A s u v (eqU x u)
 | _,_,.nil,_=>λu hu=>by cases hu | y::xs,u::us,.cons r t,f=>λu' hu=>by
  rw[List.all_cons,_T]at f;rcases _p.mp hu with rfl | hu;·rw[zdm r f.1];exact zhn r rx f.1 fx
  ·exact z2z rx fx t f.2 u' hu
def inV(x:V)(xs:List V):Bool:=xs.any λy=>eqV y x
def rIn(K:W.Frag)(neg:Bool):R2:=λx y H Q=>∃p xs,y=.ref p/\(SqL K H p xs\/SqT K H p xs)/\z1u x=true/\xs.all z1u=true/\Q (.bl (if neg then !inV x xs else inV x xs)) H
theorem zaP:OpR X (compareOp .In) (rIn X.K false):=by
 intro pins s O H x y v u Q I rx ry h;obtain⟨p,xs,rfl,hq,fx,fs,q⟩:=h;cases ry;rcases hq with hq | hq
 ·obtain⟨its,r,pl,hz⟩:=I.list hq;refine SeqAt.in_listAt (eqU x) pl.isList (λw hw=>z2z rx fx r fs w (by simpa using hw)) ⟨.bl _,H,I,rfl,?_⟩;rw[show its.toArray.any (eqU x)=its.any (eqU x) by simp,z5Y r fs];exact q
 ·obtain⟨its,r,pl,hz⟩:=I.tuple hq;refine SeqAt.in_tupleAt (eqU x) pl (λw hw=>z2z rx fx r fs w (by simpa using hw)) ⟨.bl _,H,I,rfl,?_⟩;rw[show its.toArray.any (eqU x)=its.any (eqU x) by simp,z5Y r fs];exact q
theorem z4f:yN X (.builtin "len") (λxs H Q=>∃p ys,xs=[.ref p]/\(SqL X.K H p ys\/SqT X.K H p ys)/\Q (.int ys.length) H):=by
 intro pins s O H xs us Q I r h;obtain⟨p,ys,rfl,hq,q⟩:=h;obtain⟨u,rfl,rx⟩:=vals1 r;cases rx;have hn:=z73;rcases hq with hq | hq
 ·obtain⟨its,r',pl,hz⟩:=I.list hq;have hlen:=r'.length;exact Calls.call_len_list pl.isList (by simp only[_q]<;>omega) ⟨.int ys.length,H,I.tok _,⟨s.toks+1,by rw[_q,hlen]⟩,q⟩
 ·obtain⟨its,r',pl,hz⟩:=I.tuple hq;have hlen:=r'.length;exact len_tuple pl (by simp only[_q]<;>omega) ⟨.int ys.length,H,I.tok _,⟨s.toks+1,by rw[_q,hlen]⟩,q⟩
theorem z3m:yN X (.type "tuple") (λxs H Q=>∃p ys,xs=[.ref p]/\((SqL X.K H p ys/\∀l,H l=none->Q (.ref l) (upd H l (.tup ys)))\/(SqT X.K H p ys/\Q (.ref p) H))):=by
 intro pins s O H xs us Q I r h;obtain⟨p,ys,rfl,h⟩:=h;obtain⟨u,rfl,rx⟩:=vals1 r;cases rx;rcases h with⟨hq,q⟩ | ⟨hq,q⟩
 ·obtain⟨its,r',pl,hz⟩:=I.list hq;have hlen:=r'.length;refine call_tuple_list pl.isList (λh' kp=>?_) (by simp only[_q]<;>omega);have I1:Inv X pins O H {s with heap:=h'}:=I.kept (t':=s.toks) kp;have I2:Inv X pins O (upd H h'.objs.size (.tup ys)) {s with heap:=h'.push {cls:=.type "tuple",data:=.seq its.toArray}}:= I1.laid (t':=s.toks) (λb o e=>_c _ e) (_h _) (show yq X.prog X.w _ _ _ (.tup ys) from⟨hz,its,r',zbi.new _ _⟩);exact⟨.ref h'.objs.size,_,I2,rfl,q _ (I1.hok.fresh (_h _))⟩
 ·obtain⟨its,r',pl,hz⟩:=I.tuple hq;exact call_tuple_same pl ⟨.ref p,H,I,rfl,q⟩
def tyV(K:W.Frag)(T:String)(x:V)(H:Hp):Prop:=match x with
 | .str _=>T="str" | .int _=>T="int" | .ref p=>(T="list"/\∃xs,SqL K H p xs)\/(T="tuple"/\∃o,K.lookup p=some o/\o.cls=.type "tuple"/\o.dict=none)\/ (T="dict"/\((∃kvs,H p=some (.dK kvs))\/∃kvs,H p=some (.dT kvs)))\/(T="set"/\∃S n,H p=some (.set S n)) | _=>False
theorem zh6{pins:List (Addr×Obj)}{O:St}{H:Hp}{s:Shared}{T:String}{x:V}{v:Value}(I:Inv X pins O H s)(r:yg x v)(ty:tyV X.K T x H): s.TypeIs v T/\∀a,v=.ref a->∃ob,s.heap.get? a=some ob/\ob.dict=none:=by cases x with
 | str z=>
  obtain⟨t,rfl⟩:=r;cases (show T="str" from ty);exact⟨typeIs_str s z t,λ_ e=>nomatch e⟩ | int i=>
  obtain⟨t,rfl⟩:=r;cases (show T="int" from ty);exact⟨typeIs_int s i t,λ_ e=>nomatch e⟩ | ref p=>
  cases r;rcases ty with⟨rfl,xs,hq⟩ | ⟨rfl,o,hk,hc,hd⟩ | ⟨rfl,hk⟩ | ⟨rfl,S,n,hk⟩
  ·obtain⟨its,_,pl,_⟩:=I.list hq;refine⟨pl.isList.typeIs,λa e=>?_⟩;cases e;obtain⟨o,n,e,c,hd,_⟩:=pl;exact⟨o,e,hd⟩
  ·refine⟨⟨o,I.kIn p o hk,hc⟩,λa e=>?_⟩;cases e;exact⟨o,I.kIn _ o hk,hd⟩
  ·have z:∃o,s.heap.get? p=some o/\o.ExactDict:=by
    rcases hk with⟨kvs,hk⟩ | ⟨kvs,hk⟩
    ·obtain⟨_,_,_,_,o,_,_,e,ex,_⟩:=I.hok p _ hk;exact⟨o,e,ex⟩
    ·obtain⟨_,_,_,_,o,_,_,e,ex,_⟩:=I.hok p _ hk;exact⟨o,e,ex⟩
   obtain⟨o,e,ex⟩:=z;refine⟨⟨o,e,ex.1⟩,λa e2=>?_⟩;cases e2;exact⟨o,e,ex.2.1⟩
  ·obtain⟨o,_,_,_,e,ex,_⟩:=I.hok p _ hk;refine⟨⟨o,e,ex.1⟩,λa e2=>?_⟩;cases e2;exact⟨o,e,ex.2.1⟩ | _=>exact False.elim ty
def tBM(K:W.Frag)(T:String)(r:V->List V->Hp->VK->Prop)(to:TE)(t:TA):TE:=λO H Q=>to O H λx H1=>tyV K T x H1/\t O H1 λxs H2=>r x xs H2 Q
variable {o e:Expr}{es:List Expr}{to:TE}{t:TA}{name:Str}{apos cpos:Pos}{T id:String}{r:V->List V->Hp->VK->Prop}
theorem zkc (pa:PlainAttrs T) (slot:Slot T name id) (hty:typeOf (.builtin id)=pure (.type "method_descriptor")) (hm:MtR X id r) (ho:PE X o to) (ha:PA X (e::es) t) (hbase:attributeBase o name X.env (eval o X.env)=eval o X.env:=by rfl) (hfew:((backTo cpos (starEach (e::es) X.env)).all (λx=>!x.1)&&(backToKw cpos (keywordEach [] X.env)).all (λx=>x.1.isSome) && decide ((e::es).length+([]:List Keyword).length+(if ([]:List Keyword).isEmpty then 0 else 1)<30))=true:=by rfl) (hline:(apos.endLine==cpos.line)=true:=by rfl) (hs:starEach (e::es) X.env=(false,eval e X.env)::starEach es X.env:=by rfl) (hplain:(backTo cpos (starEach es X.env)).any (·.1)=false:=by rfl): PE X (.Call (.Attribute o name apos) (e::es) [] cpos) (tBM X.K T r to t):=by
 intro pins s O H Q I h;refine wpAny_Call_method_late hbase hfew hline rfl (thn (ho pins s O H _ I h) λv s1 ⟨x,H1,I1,r1,ty,q1⟩=>?_);obtain⟨h1,h2⟩:=zh6 I1 r1 ty;refine⟨T,id,pa,slot,hty,h1,h2,?_⟩;have hA:=ha cpos pins s1 O H1 _ I1 q1;rw[hs]at hA ⊢;refine _bt (by show (false||(backTo cpos (starEach es X.env)).any (·.1))=false;rw[hplain]<;>rfl) (_cA ?_);exact thn hA λus s2 ⟨vs,H2,I2,r2,q2⟩=>hm pins s2 O H2 x vs v us Q I2 r1 r2 q2
end
def MtM (X:Cx) (id:String) (r:V->List V->Hp->VK->Prop):Prop:= ∀(pins:List (Addr×Obj)) (s:Shared) (O:St) (H:Hp) (x:V) (xs:List V) (v:Value) (us:List Value) (Q:VK),Inv X pins O H s->yg x v->yd xs us->r x xs H Q-> wpAny (model X.prog X.w) X.A (call (.builtin id) (v::us)) (EP X pins O Q) X.xe s
theorem yd.one:∀{x:V}{us:List Value},yd [x] us->∃u,us=[u]/\yg x u | _,_,.cons r .nil=>⟨_,rfl,r⟩
theorem yd.rep{xs:List V}{us:List Value}(h:yd xs us):∀k:Nat,yd (List.replicate k xs).flatten (List.replicate k us).flatten
 | 0=>.nil | k+1=>by
  rw[_ag,_ag,_aY,_aY];exact yd.append h (yd.rep h k)
theorem foldl_rep(its:List Value):∀(k:Nat)(acc:List Value), List.foldl (λx1 x2=>x1++x2) acc.toArray (List.replicate k its.toArray)=(acc++(List.replicate k its).flatten).toArray
 | 0,acc=>by simp | k+1,acc=>by
  have e:acc.toArray++its.toArray=(acc++its).toArray:=by simp
  have e2:(acc++its)++(List.replicate k its).flatten=acc++(List.replicate (k+1) its).flatten:=by rw[_ag,_aY,_de]
  rw[<- e2,<- foldl_rep its k (acc++its),<- e,_ag,_a1]
section
variable {X:Cx}{pins:List (Addr×Obj)}{O:St}{H:Hp}{s:Shared}{l b:Addr}{xs ys zs:List V}
theorem Inv.lset {its its':List Value} {n:Nat} {f:Array Value->Array Value} {t':Nat} (I:Inv X pins O H s) (hH:H l=some (.lst xs)) (e:s.heap.get? l=some {cls:=.type "list",data:=.seq its.toArray n}) (hf:f its.toArray=its'.toArray) (hv:yd ys its') (hz:ys.length<=sizeLine): Inv X pins O (upd H l (.lst ys)) {s with heap:=s.heap.update l (Obj.mapSeq f),toks:=t'}:=by
 have q:=PySem.IsL.update e f;rw[hf]at q;refine I.write (x:=l) (e:=l) (by rw[hH];exact trivial) (.inl rfl) (λb' u hb hu=>(_a5 s.heap (Obj.mapSeq f) (_a4 hb)).trans hu) ⟨_,q⟩ ?_;exact⟨hz,its',_,hv,q⟩
theorem Inv.lnew {its:List Value} {t':Nat} (I:Inv X pins O H s) (hv:yd ys its) (hz:ys.length<=sizeLine): Inv X pins O (upd H s.heap.objs.size (.lst ys)) {s with heap:=s.heap.push {cls:=.type "list",data:=.seq its.toArray},toks:=t'}:= I.laid (λ_ _ q=>_c _ q) (_h _) ⟨hz,its,0,hv,_g _ rfl⟩
theorem Inv.fresh(I:Inv X pins O H s):H s.heap.objs.size=none:=I.hok.fresh (_h _)
theorem Inv.lstM(I:Inv X pins O H s)(hH:H l=some (.lst xs)):xs.length<=sizeLine/\∃(its:List Value)(n:Nat),yd xs its/\xs.length=its.length/\s.heap.get? l=some {cls:=.type "list",data:=.seq its.toArray n}:=by
 obtain⟨z,its,n,r,e⟩:=I.hok l _ hH;exact⟨z,its,n,r,r.length,e⟩
theorem zcJ{n:Nat}(h:n<=sizeLine):Builtin.List.listTooLong n=false:=by
 unfold Builtin.List.listTooLong;exact _ab (by omega)
end
section
variable {X:Cx}
def zfu:V->List V->Hp->VK->Prop:=λx vs H Q=>∃l xs y,x=.ref l/\vs=[y]/\H l=some (.lst xs)/\xs.length<sizeLine/\Q .non (upd H l (.lst (xs++[y])))
theorem zae:MtM X "list.append" zfu:=by
 intro pins s O H x vs v us Q I rx rv h;obtain⟨l,xs,y,rfl,rfl,hH,hz,q⟩:=h;cases rx;obtain⟨u,rfl,ru⟩:=rv.one;obtain⟨z,its,n,r,hl,e⟩:=I.lstM hH;refine call_meets F.slot_list_append ⟨_,e,rfl⟩ F.entry_list_append (F.args_list_append_2 _ _) (PySem.list_append l its.toArray n u (by rw[_q];omega)) ⟨e,?_⟩;refine⟨.non,_,I.lset (its':=its++[u]) hH e (by simp) (r.append (.cons ru .nil)) ?_,rfl,q⟩;rw[_al,List.length_singleton];omega
def zkX:R2:=λx y H Q=>∃l k xs,x=.ref l/\y=.int k/\Rd H l (.lst xs)/\-(2 ^ 63)<=k/\k<2 ^ 63/\xs.length*k.toNat<=sizeLine/\ ∀p,H p=none->Q (.ref p) (upd H p (.lst (List.replicate k.toNat xs).flatten))
theorem len_rep{α:Type}(xs:List α)(k:Nat):(List.replicate k xs).flatten.length=k*xs.length:=by induction k with
 | zero=>simp | succ k ih=>rw[_ag,_aY,_al,ih,Nat.succ_mul,Nat.add_comm]
theorem zgX:OpR X (binaryOp .Mult) zkX:=by
 intro pins s O H x y v u Q I rx ry h;obtain⟨l,k,xs,rfl,rfl,hH,h1,h2,hz,q⟩:=h;cases rx;obtain⟨t,rfl⟩:=ry;obtain⟨z,its,n,r,e⟩:=hH.ok I.hok;have hl:xs.length=its.length:=by have:=r.length;omega
 have hlen:its.toArray.size*k.toNat<=sizeLine:=by rw[_q,<- hl];exact hz
 have hcap:¬ its.toArray.size*k.toNat > (2 ^ 63-1) / 8:=by
  have:(sizeLine:Nat)<=(2 ^ 63-1) / 8:=by decide
  omega
 have hfit:¬ (!Builtin.List.listFitsIndex k)=true:=by
  rw[fitsIndex_both h1 h2];exact _R
 have hlong:¬ Builtin.List.listTooLong (its.toArray.size*k.toNat)=true:=by
  rw[zcJ hlen];exact _R
 have hnew:List.foldl (λx1 x2=>x1++x2) #[] (List.replicate (if its.toArray.isEmpty=true then 0 else k.toNat) its.toArray)=(List.replicate k.toNat its).flatten.toArray:=by
  have f0:∀m:Nat,List.foldl (λx1 x2=>x1++x2) #[] (List.replicate m its.toArray)=(List.replicate m its).flatten.toArray:=λm=>by
   have:=foldl_rep its m [];rw[_bw]at this;exact this
  rw[f0];cases its with
  | nil=>simp | cons a r'=>rw[_i (by simp)]
 refine wpAny_binaryOp_repeat_ref (T:="list") (U:="int") (by decide) ⟨_,e,rfl⟩ (λs'=>typeIs_int s' k t) noFill_list_mul F.fills_int_mul F.slot_int_rmul repeat_list F.slot_int_index.lookup (call_meets F.slot_int_rmul (typeIs_int s k t) F.entry_int_rmul (F.args_int_rmul_2 _ _) (int___rmul___int_list k t l its.toArray n) ⟨e,rfl,⟨_,e,rfl⟩,call_meets F.slot_list_mul ⟨_,e,rfl⟩ F.entry_list_mul (F.args_list_mul_2 _ _) (AutoListH.list___mul___list_int_3 l its.toArray n k t hfit hcap hlong) ⟨e,?_⟩⟩);rw[hnew];exact⟨.ref _,_,I.lnew (t':=s.toks) (r.rep k.toNat) (by rw[len_rep,Nat.mul_comm];exact hz),rfl,q _ I.fresh⟩
end
end L2
namespace Att
open PySem.W PySem.Calls
theorem z0Y{P:Params}{h:Heap}:∀(ns:List Int)(vs:List Value),WellAll P h vs (ns.map WData.int)->IntsAre vs ns:=by
 intro ns;induction ns with
 | nil=>
  intro vs w;rw[_dL]at w;cases w;exact .nil | cons n ns ih=>
  intro vs w;rw[_j]at w;cases w with | cons a b=>
   cases a;exact .cons _ _ (ih _ b)
theorem zb7 {l:OpenLaw} {n:Nat} (hn:l.most=some n) {P:Params} {h:Heap} {args:List WData} {vals:List Value} (hpre:l.row.toRowW.claim.pre args=true) (hwl:WellAll P h vals args): ∃a vs ns,vals=[Value.ref a]/\args=[WData.list (ns.map WData.int)]/\h.get? a=some {cls:=.type "list",data:=.seq vs.toArray}/\IntsAre vs ns/\ns.length<=n:=by
 have hsh:WShape.hasAll [] args [.list .int]=true:=(pre_splitW hpre).1;have hc:l.pre.holds [] {args:=args}=true:=(pre_splitW hpre).2;obtain⟨d,r,rfl,h1,h2⟩:=hasAllW_cons hsh;obtain rfl:=hasAllW_nil h2;obtain⟨xs,rfl,h3⟩:=hasW_list h1;obtain⟨ns,rfl⟩:=items_int h3;have hlen:ns.length<=n:=by
  unfold OpenLaw.pre at hc;have h4:(WTm.not (.lt (.lit (.int (n:Int))) (.len (.arg 0)))).holds [] {args:=[.list (ns.map .int)]}=true:=by
   have h4:=(holds_andW hc).1;rw[hn]at h4;exact h4
  have h5:=condW_of h4 (w_not (w_lt w_lit (w_len_list (w_arg rfl))));rw[_w]at h5;refine _dx λq=>?_;have q':(n:Int)<(ns.length:Int):=by omega
  first
   | (rw[_bF q']at h5;exact absurd h5 (by decide)) | (simp at h5;omega)
 cases hwl with | cons w1 w2=>
  cases w2;cases w1 with | list ho hall=>exact⟨_,_,ns,rfl,rfl,ho,z0Y ns _ hall,hlen⟩
theorem zaf (l:OpenLaw) (args:List WData):l.row.toRowW.claim.post args (.bool true) args=true:= postW_of (r:=l.row.toRowW) (X:=(true==true)) (show WShape.has [] (.bool true) .bool=true by first | rfl | decide | simp[WShape.has,WShape.arms,WShape.armsAll]) (show (WTm.eq .res (.lit (.bool true))).value [] {args:=args,res:=some (.bool true),after:=args}=some (.bool (true==true)) from w_eq_bool (w_res rfl) w_lit) rfl
theorem z5Q{l:OpenLaw}{n:Nat}{q:Program}{loose:List Str}{XP:(Str->Option Value)->Heap->Prop}{YP:World->Heap->Prop}{d:DefRec} (hn:l.most=some n)(hdf:d.params.defaults=[]) (call:∀(w:World)(s₀ s₁:Shared)(mg mb:Str->Option Value)(fa:Addr)(o:Obj)(pm cd doc:Value)(a:Addr)(vs:List Value)(ns:List Int), Ground q loose [] XP w s₀ mg mb s₁.heap->YP w s₁.heap-> s₁.heap.get? fa=some o->o.data=.func (docDef d.name d.params d.body d.scope pm cd doc)->s₁.heap.CodeRec cd d.name->mg d.name=some (.ref fa)-> s₁.heap.get? a=some {cls:=.type "list",data:=.seq vs.toArray}->IntsAre vs ns->ns.length<=n->s₁.gens=#[]-> codeAny (model l.prog w) callerA (.call (.ref fa) ⟨[.ref a],[]⟩) (λr s'=>r=.ok (.ret (.bool true))/\OldK s₁.heap s'.heap/\s'.os=s₁.os/\AllBare s'.gens) s₁): WalkO q loose XP YP l.row.toRowW d [] (λf vs=>PySem.call f vs):=by
 intro w s₀ s₁ mg mb G Yy fa o pm cd doc dV kV ho hd hcd hD hmg hg args vals as hpre hlay hrd hwl hlo;obtain rfl:dV=.none:=Dflts.none hD hdf;obtain rfl:kV=.none:=Dflts.noKw hD;obtain⟨a,vs,ns,rfl,rfl,hobj,hints,hlen⟩:=zb7 hn hpre hwl;refine enter_call (_bG (call w s₀ s₁ mg mb fa o pm cd doc a vs ns G Yy ho (fd_plain hd) hcd hmg hobj hints hlen hg) λr s' hq=>?_);obtain⟨rfl,h2,h3,h4⟩:=hq;exact⟨.inl ⟨.bool true,.bool true,[],rfl,λ_=>rfl,.bool true,zaf l _,λ_=>⟨List.Pairwise.nil,λ_ hm=>(nomatch hm)⟩⟩,h2,h3,h4⟩
section
variable {prog:Program}{w:World}{A:Around}{E:Value->Shared->Prop}{s:Shared}{K:Frag}
def ledger(h:Heap)(L d:Addr):List (Addr×Obj):=(List.range h.objs.size).filterMap λa=>if a=L\/a=d then none else (h.get? a).map λo=>(a,o)
end
end Att
namespace L2
theorem z3N:∀{vs:List Value}{ns:List Int},IntsAre vs ns->yd (ns.map V.int) vs
 | _,_,.nil=>.nil | _,_,.cons n t h=>.cons ⟨t,rfl⟩ (z3N h)
def zk8(H:Hp):Prop:=∀b,H b=none\/∃o xs,H b=some (.frz o (.lst xs))
theorem zch {P:Program} {w:World} {K:W.Frag} {mg mb:Str->Option Value} {CX:CXT} {k:Nat} {fa a:Addr} {fd:FuncData} {x:Str} {sp:Sp} {s₁:Shared} {vs:List Value} {ns:List Int} (KX:K.In s₁.heap) (hns:s₁.heap.Ns mainGlobals mg) (hb:s₁.heap.Ns builtinsNs mb) (hbb:∀x:Str,x≠"__name__"->mb x=bootBuiltins x) (hlim:s₁.heap.NoLimit) (hg:s₁.gens=#[]) (ha:s₁.heap.get? a=some {cls:=.type "list",data:=.seq vs.toArray}) (hi:IntsAre vs ns) (hl:ns.length<=sizeLine) (hr:z07 k callerA) (F:∀base:Heap,K.In base->base.Ns mainGlobals mg->z2R P w K mg base CX k fa fd [x] sp) (hbind:∀(s:Shared) (u:Value),BindsTo s fd ⟨[u],[]⟩ [(x,u)]) (hsp:∀H:Hp,zk8 H->SqL K H a (ns.map V.int)->sp [.ref a] H (λv _=>v=.bl true) λ_ _ _=>False) (hCX:∀H e s',CX [] H s₁ (λ_ _ _=>False) e s'->False): codeAny (model P w) callerA (.call (.ref fa) ⟨[.ref a],[]⟩) (λr s'=>r=.ok (.ret (.bool true))/\OldK s₁.heap s'.heap/\s'.os=s₁.os/\AllBare s'.gens) s₁:=by
 have rv:=z3N hi;have lenV:=hi.length;have core:∀H:Hp,zk8 H->SqL K H a (ns.map V.int)->HOk P w H s₁.heap->(∀b,H b≠none->b=a)->(H a≠none->K.lookup a=none)-> codeAny (model P w) callerA (.call (.ref fa) ⟨[.ref a],[]⟩) (λr s'=>r=.ok (.ret (.bool true))/\OldK s₁.heap s'.heap/\s'.os=s₁.os/\AllBare s'.gens) s₁:=by
  intro H hO hS hok hA hK;have base_of:∀{b:Addr} {o:Obj},s₁.heap.get? b=some o->H b=none->(zc7 s₁.heap H).get? b=some o:=λe n=>zc6 e n;have noA:∀{b:Addr} {o:Obj} {es:Array DictEntry} {ep:Nat},s₁.heap.get? b=some o->o.data=.dict es ep->H b=none:=λ{b o es ep} e d=>by cases q:H b with
   | none=>rfl | some u=>
    have e':b=a:=hA b (by rw[q];simp);subst e';rw[ha]at e;cases e;have d':Data.seq vs.toArray _=Data.dict es ep:=d;cases d'
  have nsK:∀{b:Addr} {m:Str->Option Value},s₁.heap.Ns b m->(zc7 s₁.heap H).Ns b m:=λ{b m} ⟨o,es,ep,e,d,r⟩=>⟨o,es,ep,base_of e (noA e d),d,r⟩;have hKb:K.In (zc7 s₁.heap H):=λb o e=>base_of (KX b o e) (by cases q:H b with
   | none=>rfl | some u=>
    have e':b=a:=hA b (by rw[q];simp);subst e';rw[hK (by rw[q];simp)]at e;cases e);have hM:Mod K mg (zc7 s₁.heap H):=⟨hKb,nsK hns,⟨mb,nsK hb,hbb⟩,let ⟨mc,h1,h2⟩:=hlim;⟨mc,nsK h1,h2⟩⟩;have e0:ziK P w K mg (zc7 s₁.heap H) callerA [] s₁ H:=⟨rfl,hM,λb o e=>zga e,Nat.le_of_eq (z8w _ _),trivial,λb hb=>absurd (show b∈([]:List Addr) from hb) (by simp),hok,.of_eq hg⟩;refine _bG ((F _ hKb (nsK hns)).run callerA [] s₁ H ⟨[.ref a],[]⟩ [.ref a] [.ref a] _ _ hr e0 (hbind s₁ (.ref a)) (.cons rfl .nil) (hsp H hO hS)) λr s' h=>?_;cases r with
  | error e=>exact (hCX H e s' h).elim | ok fl=> cases fl with
   | next=>exact False.elim h | brk=>exact False.elim h | cont=>exact False.elim h | ret u=>
    obtain⟨v,H',os,bare,un,hok',r',q⟩:=h;have q':v=.bl true:=q;subst q';obtain rfl:u=Value.bool true:=r';refine⟨rfl,OldK.of_keep λb o e=>?_,os,bare⟩;cases q:H b with
    | none=>exact un.keep b o e q (by intro z;exact absurd (show b∈([]:List Addr) from z) (by simp)) (by simp) | some u=>
     rcases hO b with z | ⟨ob,xs,z⟩;·rw[q]at z;cases z
     ·have z2:=un.frzs b ob _ z;obtain⟨e1,_⟩:=hok b _ z;obtain⟨e2,_⟩:=hok' b _ z2;rw[e]at e1;cases e1;exact e2
 cases hk:K.lookup a with
 | some o=>
  have e:=KX a o hk;rw[ha]at e;cases e;refine core (λ_=>none) (λ_=>.inl rfl) (.inr ⟨_,vs.toArray,_,hk,rfl,rfl,rfl,by rw[_q,lenV];exact hl,by simpa using rv⟩) (λb u z=>by have z':(none:Option HO)=some u:=z;cases z') (λb z=>absurd rfl z) λz=>absurd rfl z | none=>
  refine core (λb=>if b=a then some (.frz {cls:=.type "list",data:=.seq vs.toArray} (.lst (ns.map V.int))) else none) (λb=>?_) (.inl (.inr ⟨{cls:=.type "list",data:=.seq vs.toArray},_f rfl⟩)) (λb u z=>?_) (λb z=>?_) λ_=>hk
  ·by_cases hb:b=a;·exact .inr ⟨_,_,_f hb⟩
   ·exact .inl (_i hb)
  ·by_cases hb:b=a
   ·have z':=(_f hb).symm.trans z;cases z';subst hb;exact⟨ha,by rw[_w];exact hl,vs,_,rv,ha⟩
   ·have z':=(_i hb).symm.trans z;cases z'
  ·by_cases hb:b=a;·exact hb
   ·exact absurd (_i hb) z
abbrev KOf{K:W.Frag}{h:Heap}(_:K.In h):W.Frag:=K
def ke(s:Stmt):Arguments:=match s with
 | .FunctionDef _ a _ _ _ _ _ _ _ _=>a | _=>{posonlyargs:=[],args:=[],vararg:=none,kwonlyargs:=[],kw_defaults:=[],kwarg:=none,defaults:=[]}
def vN(s:Stmt):List Stmt:=match s with
 | .FunctionDef _ _ b _ _ _ _ _ _ _=>b | _=>[]
def zg(s:Stmt):Scope:=match s with
 | .FunctionDef _ _ _ _ _ _ sc _ _ _=>sc | _=>{kind:=.function,names:=[],isGenerator:=false,isCoroutine:=false}
abbrev CX0:CXT:=λ_ _ _ _ _ _=>False
abbrev E0:XK:=λ_ _ _=>False
theorem zx{X:Cx}:Passes CX0 X E0:=λ_ _ _ _ _ _ _ h=>h.elim
structure Fun(K:W.Frag)(x qual:Str)(st:Stmt)(f:Addr)(fd:FuncData):Prop where
 ex:∃(oc:Value)(od:Option Addr)(kV doc pm:Value)(an:Option Addr)(cdv ct:Value)(osl:Array (Option Value)), fd=W.fnOf x qual (ke st) (vN st) (zg st) .none kV doc pm an cdv ct/\K.lookup f=some ⟨oc,od,.func fd,osl⟩/\W.codeIn K cdv qual=true
 kp:W.keepIn K (.ref f)=true
section
variable {P:Program}{w:World}{K:W.Frag}{mg:Str->Option Value}{base:Heap}
theorem Fun.ok{x qual:Str}{st:Stmt}{f:Addr}{fd:FuncData}{N ps:List Str}{k:Nat}{sp:Sp}(F:Fun K x qual st f fd)(S:zu N ps (zg st))(len:∀vs H Q E,sp vs H Q E->vs.length=ps.length) (hbody:∀(cdv:Value)(A:Around)(outer:List Env)(s:Shared)(H:Hp)(vs:List V)(Q:VK)(E:XK),z07 k (A.deeper (envOfC qual (zg st) s.heap.objs.size f cdv))->sp vs H Q E-> ∃t,PSs (zbl CX0 P w K mg base N qual (zg st) f cdv A outer s H E).nox (vN st) t/\t {nx:=λ_ H'=>Q .non H',rt:=Q} (start N vs) H):z2R P w K mg base CX0 (k+1) f fd ps sp:=by
 obtain⟨oc,od,kV,doc,pm,an,cdv,ct,osl,rfl,lk,hcd⟩:=F.ex;refine ziW lk hcd S len λA outer s H vs Q E hr hsp=>?_;obtain⟨t,h,q⟩:=hbody cdv A outer s H vs Q E hr hsp;exact⟨t,h.nox,q⟩
theorem Fun.binds{x qual:Str}{st:Stmt}{f:Addr}{fd:FuncData}{ps:List Str}(F:Fun K x qual st f fd) (h:∀(kV doc pm:Value)(an:Option Addr)(cdv ct:Value)(us:List Value),us.length=ps.length->bindArgs (W.fnOf x qual (ke st) (vN st) (zg st) .none kV doc pm an cdv ct) ⟨us,[]⟩=pure (ps.zip us)):Binds K fd ps []:=by
 obtain⟨oc,od,kV,doc,pm,an,cdv,ct,osl,rfl,lk,hcd⟩:=F.ex;exact .all (h kV doc pm an cdv ct)
theorem zi8{x qual:Str}{st:Stmt}{f:Addr}{oc:Value}{od an:Option Addr}{osl:Array (Option Value)}{kV doc pm cdv ct:Value}(l:K.lookup f=some ⟨oc,od,.func (W.fnOf x qual (ke st) (vN st) (zg st) .none kV doc pm an cdv ct),osl⟩) (c:W.codeIn K cdv qual=true)(k:W.keepIn K (.ref f)=true):Fun K x qual st f (W.fnOf x qual (ke st) (vN st) (zg st) .none kV doc pm an cdv ct):=⟨⟨oc,od,kV,doc,pm,an,cdv,ct,osl,rfl,l,c⟩,k⟩
end
section
variable {X:Cx}
theorem pv(i:Nat){x:Str}{pos:Pos}(hN:X.N[i]? = some x:=by rfl)(hv:Vis X.env.scope x:=by first | exact Or.inl rfl | exact Or.inr (Or.inl rfl) | exact Or.inr (Or.inr rfl))(hd:(x==("__debug__":Str))=false:=by decide) (hcd:(x==("__classdict__":Str))=false:=by decide):PE X (.Name x pos) (zkP i):=z9G hN hv hd hcd
end
end L2
set_option maxHeartbeats 4000000
namespace L2
def z2Z(env:Env):List (Str×NameKind)->List (Str×Addr)->List (Str×Addr)
 | [],acc=>acc | (n,k)::r,acc=>z2Z env r (if k==.free then (match env.cells.lookup n with | some c=>(n,c)::acc | none=>acc) else acc)
theorem z14{env:Env}:∀(names:List (Str×NameKind))(acc:List (Str×Addr)),(∀x c,acc.lookup x=some c->env.cells.lookup x=some c)->∀x c,(z2Z env names acc).lookup x=some c->env.cells.lookup x=some c
 | [],acc,ha=>ha | (n,k)::r,acc,ha=>by
  unfold z2Z;refine z14 r _ λx c=>?_;split
  ·split
   ·rename_i c' hc;intro h;rw[_W]at h;split at h
    ·rename_i hb;cases h;rw[_bY.mp hb];exact hc
    ·exact ha x c h
   ·exact ha x c
  ·exact ha x c
theorem z4w{env:Env}{x:Str}:∀(names:List (Str×NameKind))(acc:List (Str×Addr)),(acc.lookup x).isSome=true->((z2Z env names acc).lookup x).isSome=true
 | [],acc,ha=>ha | (n,k)::r,acc,ha=>by
  unfold z2Z;refine z4w r _ ?_;split
  ·split
   ·rw[_W];split;·rfl
    ·exact ha
   ·exact ha
  ·exact ha
theorem z2f{env:Env}{x:Str}:∀(names:List (Str×NameKind))(acc:List (Str×Addr)),(x,NameKind.free)∈names->(∃c,env.cells.lookup x=some c)->∃c,(z2Z env names acc).lookup x=some c
 | [],acc,h,_=>nomatch h | (n,k)::r,acc,h,hc=>by
  rcases _p.mp h with e | h
  ·cases e;obtain⟨c,hc⟩:=hc;unfold z2Z;have q:((z2Z env r ((x,c)::acc)).lookup x).isSome=true:=z4w r _ (by simp);rw[_f (by rfl),hc];exact _am.mp q
  ·unfold z2Z;exact z2f r _ h hc
theorem z1J{env:Env}(f:Str×NameKind->List (Str×Addr)->Sem (ForInStep (List (Str×Addr)))) (hf:∀n k cs,f (n,k) cs=if k==.free then (do let a <- cellOf env n;pure (.yield ((n,a)::cs))) else pure (.yield cs)): ∀(names:List (Str×NameKind))(acc:List (Str×Addr)),(∀y∈names,y.2=.free->∃c,env.cells.lookup y.1=some c)->forIn names acc f=pure (z2Z env names acc)
 | [],acc,_=>rfl | (n,k)::r,acc,h=>by
  rw[List.forIn_cons,hf];have ih:=λacc'=>z1J f hf r acc' λy hy=>h y (_C _ hy);unfold z2Z;by_cases hk:k=.free
  ·subst hk;obtain⟨c,hc⟩:=h (n,.free) _K rfl;have hc':env.cells.lookup n=some c:=hc;have e:cellOf env n=pure c:=by unfold cellOf;rw[hc']
   rw[_f (by rfl),_f (by rfl),e,hc',pure_bind,pure_bind];exact ih _
  ·have hb:(k==NameKind.free)=false:=by simpa using hk
   rw[hb,_i (by decide),_i (by decide),pure_bind];exact ih _
theorem vO{scope:Scope}{env:Env}(h:∀y∈scope.names,y.2=.free->∃c,env.cells.lookup y.1=some c):closureFor scope env=pure (z2Z env scope.names []):=by
 simp only[closureFor];rw[z1J (env:=env) _ (λn k cs=>by cases hk:k==NameKind.free<;>simp[hk]) scope.names [] h];simp
theorem xr:∀(names:List (Str×NameKind))(n:Nat)(acc:List (Str×Addr)),cellsFrom n names acc=cellsFrom n names []++acc
 | [],_,_=>rfl | (x,k)::r,n,acc=>by
  unfold cellsFrom;split
  ·rw[xr r (n+1) ((x,n)::acc),xr r (n+1) [(x,n)]];simp
  ·exact xr r n acc
theorem vy{x:Str}{c:Addr}:∀(names:List (Str×NameKind))(n:Nat)(acc:List (Str×Addr)),(x,c)∈cellsFrom n names acc->(x,c)∈acc\/(x,NameKind.cell)∈names
 | [],_,_,h=>.inl h | (y,k)::r,n,acc,h=>by
  unfold cellsFrom at h;split at h
  ·rename_i hk;rcases vy r _ _ h with q | q
   ·rcases _p.mp q with e | q
    ·cases e;refine .inr ?_;rw[show k=NameKind.cell from _bY.mp hk];exact _K
    ·exact .inl q
   ·exact .inr (_C _ q)
  ·rcases vy r _ _ h with q | q;·exact .inl q
   ·exact .inr (_C _ q)
def z6m(X:Cx)(scope:Scope)(C:Addr):Env:= {scope:=relabel scope X.env,locals:=C,globals:=X.env.globals,cells:=cellsFrom (C+1) scope.names []++z2Z X.env scope.names [],qual:=X.env.qual,func:=none,code:=X.env.code,frame:=X.env.frame,builtins:=X.env.builtins}
def zp(X:Cx)(N':List Str)(scope:Scope)(ex:List Addr)(s:Shared)(H:Hp):Cx where
 prog:=X.prog;w:=X.w;K:=X.K;mg:=X.mg;base:=X.base;A:=X.A;N:=N';s₀:=s;H₀:=H;env:=z6m X scope s.heap.objs.size;outer:=X.stack;stack:=X.stack;ex:=ex;fn:=λx=>scope.names.lookup x==some .cell;calm:=X.calm;pn:=[];xe:=λ_ _=>False
theorem qh{env:Env}{x:Str}{k:NameKind}:∀{names:List (Str×NameKind)},names.lookup x=some k-> (names.map λ(n,k)=>if (k==NameKind.free&&env.scope.kind==.function&&env.kindOf n==some .cell) then (n,NameKind.cell) else (n,k)).lookup x=some k\/ (k=.free/\(names.map λ(n,k)=>if (k==NameKind.free&&env.scope.kind==.function&&env.kindOf n==some .cell) then (n,NameKind.cell) else (n,k)).lookup x=some .cell)
 | [],h=>by simp at h | (n,k')::r,h=>by
  have ih:=@qh env x k r;show List.lookup x ((if (k'==NameKind.free&&env.scope.kind==.function&&env.kindOf n==some .cell)=true then (n,NameKind.cell) else (n,k'))::_)=_\/(_/\List.lookup x ((if (k'==NameKind.free&&env.scope.kind==.function&&env.kindOf n==some .cell)=true then (n,NameKind.cell) else (n,k'))::_)=_);cases hx:x==n with
  | true=>
   simp only[_W,hx]at h;cases h;by_cases hc:(k==NameKind.free&&env.scope.kind==.function&&env.kindOf n==some .cell)=true
   ·rw[_f hc];simp only[_T,_bY]at hc;exact .inr ⟨hc.1.1,by simp[_W,hx]⟩
   ·rw[_i hc];exact .inl (by simp[_W,hx]) | false=>
   simp only[_W,hx]at h;by_cases hc:(k'==NameKind.free&&env.scope.kind==.function&&env.kindOf n==some .cell)=true;·rw[_f hc];simp only[_W,hx];exact ih h
   ·rw[_i hc];simp only[_W,hx];exact ih h
theorem wV{env:Env}{x:Str}{k:NameKind}:∀{names:List (Str×NameKind)}, (names.map λ(n,k)=>if (k==NameKind.free&&env.scope.kind==.function&&env.kindOf n==some .cell) then (n,NameKind.cell) else (n,k)).lookup x=some k->(k=.cell\/k=.free)->(x,NameKind.cell)∈names\/(x,NameKind.free)∈names
 | [],h,_=>by simp at h | (n,k')::r,h,hk=>by
  have ih:=@wV env x k r;change List.lookup x ((if (k'==NameKind.free&&env.scope.kind==.function&&env.kindOf n==some .cell)=true then (n,NameKind.cell) else (n,k'))::_)=_ at h;have step:(List.lookup x (r.map λ(n,k)=>if (k==NameKind.free&&env.scope.kind==.function&&env.kindOf n==some .cell) then (n,NameKind.cell) else (n,k))=some k)->(x,NameKind.cell)∈(n,k')::r\/(x,NameKind.free)∈(n,k')::r:=λq=> (ih q hk).elim (λz=>.inl (_C _ z)) λz=>.inr (_C _ z);by_cases hc:(k'==NameKind.free&&env.scope.kind==.function&&env.kindOf n==some .cell)=true
  ·rw[_f hc,_W]at h;split at h
   ·rename_i hb;simp only[_T,_bY]at hc;rw[_bY.mp hb,hc.1.1];exact .inr _K
   ·exact step h
  ·rw[_i hc,_W]at h;split at h
   ·rename_i hb;cases h;rw[_bY.mp hb];rcases hk with rfl | rfl;·exact .inl _K
    ·exact .inr _K
   ·exact step h
def inner(mp:List (Option Nat))(O:St):St:=mp.map λo=>match o with | some j=>(O[j]?).getD none | none=>none
def z1C(N:List Str)(names:List (Str×NameKind)):List Str->List (Option Nat)->Bool
 | [],[]=>true | _::r,none::mp=>z1C N names r mp | x::r,some j::mp=>N[j]? == some x&&names.lookup x==some .free&&z1C N names r mp | _,_=>false
theorem z2r{N:List Str}{names:List (Str×NameKind)}:∀{N':List Str}{mp:List (Option Nat)},z1C N names N' mp=true->mp.length=N'.length
 | [],[],_=>rfl | _::_,none::_,h=>by
  simp only[z1C]at h;simp only[_n];rw[z2r h] | _::_,some _::_,h=>by
  simp only[z1C,_T]at h;simp only[_n];rw[z2r h.2] | [],none::_,h=>by cases h | [],some _::_,h=>by cases h | _::_,[],h=>by cases h
theorem z6p{N:List Str}{names:List (Str×NameKind)}:∀{N':List Str}{mp:List (Option Nat)}{i j:Nat}{x:Str},z1C N names N' mp=true->N'[i]? = some x->mp[i]? = some (some j)->N[j]? = some x/\names.lookup x=some .free
 | [],_,_,_,_,_,h,_=>by simp at h | _::_,[],_,_,_,_,_,h=>by simp at h | _::_,none::_,0,_,_,_,_,h=>by simp at h | _::_,some _::_,0,_,_,h,h1,h2=>by
  simp only[z1C,_T,_bY]at h;simp at h1 h2;subst h1 h2;exact h.1 | _::_,none::_,i+1,_,_,h,h1,h2=>by
  simp only[z1C]at h;exact z6p (i:=i) h (by simpa using h1) (by simpa using h2) | _::_,some _::_,i+1,_,_,h,h1,h2=>by
  simp only[z1C,_T]at h;exact z6p (i:=i) h.2 (by simpa using h1) (by simpa using h2)
section
variable {X:Cx}{pins:List (Addr×Obj)}{O:St}{H:Hp}{s s1:Shared}{scope:Scope}{N':List Str}{ex:List Addr}{mp:List (Option Nat)}
theorem z8g{α:Type}{x:Str}{l1 l2:List (Str×α)}{c:α}(h:(l1++l2).lookup x=some c):l1.lookup x=some c\/(l1.lookup x=none/\l2.lookup x=some c):=by
 rw[_bZ]at h;cases e:l1.lookup x with
 | some d=>rw[e]at h;exact .inl h | none=>rw[e]at h;exact .inr ⟨rfl,h⟩
theorem z26 (I:Inv X pins O H s) (hkd:scope.kind=.function) (hnm:∀y∈scope.names,scope.names.lookup y.1=some y.2) (hfr:∀y∈scope.names,y.2=.free->X.env.kindOf y.1=some .cell\/X.env.kindOf y.1=some .free) (hmp:z1C X.N scope.names N' mp=true) (hex:∀b∈ex,b<s.heap.objs.size/\H b=none/\b≠X.env.locals/\b∉X.fs/\(b∈X.ex\/X.s₀.heap.objs.size<=b)/\(∀x c,X.env.cells.lookup x=some c->c≠b)) (e1:s1.heap=pushCells (s.heap.push {cls:=.type "dict",data:=.dict #[]}) scope.names) (e2:s1.os=s.os) (e3:s1.gens=s.gens): Inv (zp X N' scope ex s H) [] (inner mp O) H s1:=by
 have keep:∀b o,s.heap.get? b=some o->s1.heap.get? b=some o:=λb o e=>by rw[e1];exact _cI _ _ b o (_c _ e)
 have ok:=cellsFrom_ok scope.names (s.heap.push {cls:=.type "dict",data:=.dict #[]}) (s.heap.objs.size+1) [] ⟨λ_ _ hm=>(nomatch hm),List.Pairwise.nil⟩ (by rw[_as];exact _h _);rw[_as,<- e1]at ok;have hclo:∀x c,(z2Z X.env scope.names []).lookup x=some c->X.env.cells.lookup x=some c:=z14 scope.names [] (λx c h=>by simp at h);have clt:∀x c,X.env.cells.lookup x=some c->c<s.heap.objs.size:=λx c h=>by obtain⟨v,q⟩:=I.cell x c h;exact q.lt
 have own:∀x c,(cellsFrom (s.heap.objs.size+1) scope.names []).lookup x=some c->s1.heap.IsCell c none/\s.heap.objs.size+1<=c:=λx c h=>ok.empty x c (_af h);have both:∀x c,(z6m X scope s.heap.objs.size).cells.lookup x=some c->((cellsFrom (s.heap.objs.size+1) scope.names []).lookup x=some c/\s1.heap.IsCell c none/\s.heap.objs.size+1<=c)\/(X.env.cells.lookup x=some c):=λx c h=>by
  rcases z8g h with q | ⟨_,q⟩;·exact .inl ⟨q,own x c q⟩
  ·exact .inr (hclo x c q)
 refine⟨⟨I.ok.mod,hkd,I.ok.glob,I.ok.blt,_h _,λx y c h1 h2=>?_,λx hx=>?_,λx c hf h=>?_,I.ok.hd,I.ok.frames,.inl rfl,λb hb=>⟨_t (hex b hb).1,λx c h=>?_⟩,λb o e=>I.bs b o e,_ad I.ok.bsz I.sz,λb o e hb=>?_,λb hb hf=>?_,I.stack,I.stkFree⟩, e2,by rw[e3];exact I.bare,Un.kept keep,?_,λx c h=>?_,I.hok.fresh (_h _),λx c h=>?_,λp hp=>absurd (show p∈([]:List (Addr×Obj)) from hp) (by simp),I.hok.kept keep,?_⟩
 ·rcases both x c h1 with⟨q1,_,l1⟩ | q1<;>rcases both y c h2 with⟨q2,_,l2⟩ | q2;·exact name_of_addr ok.apart (_af q1) (_af q2)
  ·exact absurd (_v (clt y c q2) (_df l1)) (_aN _)
  ·exact absurd (_v (clt x c q1) (_df l2)) (_aN _)
  ·exact I.ok.inj x y c q1 q2
 ·have hx':(x,NameKind.cell)∈scope.names\/(x,NameKind.free)∈scope.names:=by
   rcases hx with hx | hx;·exact wV (env:=X.env) hx (.inl rfl)
   ·exact wV (env:=X.env) hx (.inr rfl)
  show ∃c,(cellsFrom (s.heap.objs.size+1) scope.names []++z2Z X.env scope.names []).lookup x=some c;rw[_bZ];cases e:(cellsFrom (s.heap.objs.size+1) scope.names []).lookup x with
  | some c=>exact⟨c,rfl⟩ | none=>
   rcases hx' with hx' | hx'
   ·obtain⟨c,q⟩:=z03 (sc:=scope) (n:=s.heap.objs.size+1) (hnm (x,.cell) hx');rw[q]at e;cases e
   ·obtain⟨c,q⟩:=z2f (env:=X.env) scope.names [] hx' (I.ok.has x (hfr (x,.free) hx' rfl));exact⟨c,by simpa using q⟩
 ·have hf':scope.names.lookup x=some .cell:=_bY.mp hf;obtain⟨c',q⟩:=z03 (sc:=scope) (n:=s.heap.objs.size+1) hf';have h':(cellsFrom (s.heap.objs.size+1) scope.names []++z2Z X.env scope.names []).lookup x=some c:=h;rw[_bZ,q]at h';have e:c'=c:=_E h';subst e;exact _b4 (Nat.lt_of_succ_le (own x c' q).2)
 ·rcases both x c h with⟨_,_,l⟩ | q
  ·intro z;rw[z]at l;exact absurd (_v (hex b hb).1 (_df l)) (_aN _)
  ·exact (hex b hb).2.2.2.2.2 x c q
 ·rcases (hex b hb).2.2.2.2.1 with z | z;·exact I.ok.noex b o e z
  ·exact absurd (_v (_v (_l e) I.ok.bsz) z) (_aN _)
 ·have q:=I.stkSub b hf;rcases _p.mp q with z | z;·exact (hex b hb).2.2.1 z
  ·exact (hex b hb).2.2.2.1 z
 ·refine⟨λ_=>none,?_,λi x v h1 h2 h3=>?_⟩
  ·rw[e1];exact (Heap.Ns.new s.heap (.type "dict")).keeps (_cI _ _)
  ·have h2':(inner mp O)[i]? = some (some v):=h2;unfold inner at h2';rw[_S]at h2';cases em:mp[i]? with
   | none=>rw[em]at h2';cases h2' | some o=>
    rw[em]at h2';cases o with
    | none=>cases h2' | some j=>
     obtain⟨hj,hl⟩:=z6p hmp h1 em;have hmem:(x,NameKind.free)∈scope.names:=_af hl;have hv:O[j]? = some (some v):=by
      simp only[_H]at h2';cases eO:O[j]? with
      | none=>rw[eO]at h2';cases h2' | some o=>rw[eO]at h2';exact h2'
     obtain⟨m,hn,hlook⟩:=I.loc;have kx:X.env.kindOf x=some .cell\/X.env.kindOf x=some .free:=hfr _ hmem rfl;obtain⟨u,r,L⟩:=hlook j x v hj hv (by rcases kx with k | k;exact .inr (.inl k);exact .inr (.inr k));refine⟨u,r,.inr ?_⟩;rcases L with⟨k,_⟩ | ⟨_,c,hc,hcell⟩;·rcases kx with k' | k'<;>(rw[k]at k';cases k')
     ·have ncell:(x,NameKind.cell)∉scope.names:=λz=>by
       have a:=hnm _ z;rw[hl]at a;cases a
      refine⟨?_,c,?_,hcell.keeps keep⟩
      ·rcases qh (env:=X.env) hl with q | ⟨_,q⟩;·exact .inr q
       ·exact .inl q
      ·show (cellsFrom (s.heap.objs.size+1) scope.names []++z2Z X.env scope.names []).lookup x=some c;rw[_bZ];cases e:(cellsFrom (s.heap.objs.size+1) scope.names []).lookup x with
       | some c'=> exact absurd ((vy _ _ _ (_af e)).resolve_left (by simp)) ncell | none=>
        obtain⟨c2,q⟩:=z2f (env:=X.env) scope.names [] hmem ⟨c,hc⟩;have q2:=hclo x c2 q;rw[hc]at q2;cases q2;simpa using q
 ·rcases both x c h with⟨_,q,_⟩ | q;·exact⟨_,q⟩
  ·obtain⟨v,z⟩:=I.cell x c q;exact⟨v,z.keeps keep⟩
 ·rcases both x c h with⟨_,_,l⟩ | q;·exact I.hok.fresh (by omega)
  ·exact I.freeC x c q
 ·unfold inner;rw[_w];exact z2r hmp
end
section
variable {M:Model}{A:Around}{E:Value->Shared->Prop}{s:Shared}
theorem z18{scope:Scope}{env:Env}{cl:List (Str×Addr)}{Q:Env->Shared->Prop} (h:Q {scope:=scope,locals:=s.heap.objs.size,globals:=env.globals,cells:=cellsFrom (s.heap.objs.size+1) scope.names cl,qual:=env.qual,func:=none,code:=env.code,frame:=env.frame,builtins:=env.builtins} {s with heap:=pushCells (s.heap.push {cls:=.type "dict",data:=.dict #[]}) scope.names}): wpAny M A (newFunctionEnv scope env.globals cl [] env.qual none .none (some env)) Q E s:=by
 simp only[newFunctionEnv,Option.isSome_some,_N];refine _a (wpAny_alloc ?_);refine _a (wpAny_layCells _ (λname kind cells=>by cases hkc:kind==NameKind.cell<;>simp[hkc]) _ _ _ _ ?_);rw[show ({s with heap:=s.heap.push {cls:=.type "dict",data:=.dict #[]}}:Shared).heap.objs.size=s.heap.objs.size+1 from _as ..];refine _a ?_;rw[List.forIn_nil];exact _b (_b h)
end
section
variable {prog:Program}{w:World}{A:Around}{E:Value->Shared->Prop}{R:Result->Shared->Prop}{s:Shared}
theorem z48{elt target iter:Expr}{ifs:List Expr}{scope:Scope}{pos:Pos}{it acc:Value}{env:Env}(I:Nat->Shared->Prop) (turn:∀n s,I n s->wpAny (model prog w) A (pyNext it) (λr s₁=>match r with
   | none=>R (.ok .next) s₁ | some v=>wpAny (model prog w) A (letOwnedTupleGo target it v) (λ_ s₁'=>wpAny (model prog w) A (assign target env v) (λ_ s₂=> wpAny (model prog w) A (forIn ifs true λc r=>if r=true then do let ok <- isTrue c env (eval c env);pure (ForInStep.yield ok) else pure (ForInStep.yield r)) (λok s₃=> if ok=true then wpAny (model prog w) A (eval elt env) (λx s₄=> wpAny (model prog w) A (call (.builtin "list.append") [acc,x]) (λ_ s₅=>∃m,m<n/\I m s₅) (λ_ _=>False) s₄) (λ_ _=>False) s₃ else ∃m,m<n/\I m s₃) (λ_ _=>False) s₂) (λ_ _=>False) s₁') (λ_ _=>False) s₁) (λ_ _=>False) s) (n:Nat)(h:I n s): codeAny (model prog w) A (.compLoop (.ListComp elt [⟨target,iter,ifs,0⟩] scope pos) 0 it acc env) R s:=by
 refine codeAny_loop rfl I (λn s hI=>?_) n h;show wpAny _ A ((compTurn (.ListComp elt [⟨target,iter,ifs,0⟩] scope pos) 0 it acc env).onRaise (λx=>do noteFrame x env;theTreesLotGoes x)) _ _ s;refine wpAny_noted ?_;rw[compTurn_list];refine _a (_aS (_a (_D (turn n s hI) (λr s₁ h₁=>?_) λ_ _ h'=>h'.elim)));cases r with
 | none=>exact _b h₁ | some v=>
  refine _a (_D h₁ (λ_ s₁' h₁'=>?_) λ_ _ h'=>h'.elim);refine _a (_D h₁' (λ_ s₂ h₂=>_a (_D h₂ (λok s₃ h₃=>?_) λ_ _ h'=>h'.elim)) λ_ _ h'=>h'.elim);cases ok with
  | false=>exact _b ⟨rfl,h₃⟩ | true=> exact _a (_a (_D h₃ (λx s₄ h₄=>_a (_D h₄ (λ_ s₅ h₅=>_b (_b ⟨rfl,h₅⟩)) λ_ _ h'=>h'.elim)) λ_ _ h'=>h'.elim))
end
def z8N(X:Cx)(ifs:List Expr)(t:TT):Prop:= ∀(pins:List (Addr×Obj))(s:Shared)(O:St)(H:Hp)(Q:Bool->Hp->Prop),Inv X pins O H s->t O H Q-> wpAny (model X.prog X.w) X.A (forIn ifs true λc r=>if r=true then do let ok <- isTrue c X.env (eval c X.env);pure (ForInStep.yield ok) else pure (ForInStep.yield r)) (TP X pins O Q) X.xe s
theorem zcN{X:Cx}:z8N X [] (λ_ H Q=>Q true H):=λ_ _ _ H _ I h=>wpAny_tests_nil ⟨H,I,h⟩
theorem zd1{X:Cx}{c:Expr}{t:TT}(h:PT X c t):z8N X [c] t:=λpins s O H Q I hq=>wpAny_tests_one (h pins s O H Q I hq)
theorem Inv.track {X:Cx} {pins:List (Addr×Obj)} {O:St} {H:Hp} {s:Shared} {a:Addr} {o:HO} (I:Inv X pins O H s) (f:z2a X pins H a) (new:yq X.prog X.w (upd H a o) s.heap a o):Inv X pins O (upd H a o) s:=by
 obtain⟨f0,f1,f2,f3,f4,f5⟩:=f;have hs:HOk X.prog X.w (upd H a o) s.heap:=λb u e=>by
  by_cases hb:b=a;·subst hb;rw[zC]at e;cases e;exact new
  ·rw[zn hb]at e;exact (I.hok b u e).stay (λ_ _ _ q=>q) (λc q=>by rw[zn (ym q f0)];exact q) λc xs q=>by rw[zn (ym q f0)];exact q
 exact I.step (h':=s.heap) (g':=s.gens) (d':=s.drawn) (t':=s.toks) (ch:=[a]) (λb hb=>by
  have e:b=a:=by simpa using hb
  subst e;exact⟨f3,f1,f4,f5⟩) (λb o _ _ _ e _=>e) (λb o _ _ _ e _=>⟨o.slots,e⟩) (λb o hb _ n=>by rw[zn (λz=>hb (by simp[z]))];exact n) (λb o _ e=>⟨o,e⟩) (λb xs q=>by rw[zn (ym q f0)];exact q) (λb u xs q=>by rw[zn (ym q f0)];exact q) (λb ps q=>⟨#[],by rw[zn (ym q f0),q];simp⟩) (λ_ q=>q) hs I.bare
def zg5(wi:TI)(mp:List (Option Nat))(g:TG)(ti:TT)(te:TE):TE:=λO H Q=>wi O H λJ H1=>∃W:Nat->Nat->List V->Hp->Prop,(∃m,W 0 m [] H1)/\∀i m ys H,W i m ys H-> (J.stop i H/\ys.length<=sizeLine/\∀p,H p=none->Q (.ref p) (upd H p (.lst ys)))\/ (J.go i H/\∀x H',J.yld i H x H'->g x (inner mp O) H' λO2 H2=>(O2.length=(inner mp O).length/\∀(i:Nat) v,(inner mp O)[i]? = some (some v)->O2[i]? = some (some v))/\ ti O2 H2 λb H3=>if b=true then te O2 H3 λy H4=>ys.length<=sizeLine/\∃m',m'<m/\W (i+1) m' (ys++[y]) H4 else ∃m',m'<m/\W (i+1) m' ys H3)
def jd(X:Cx)(pins:List (Addr×Obj))(O:St)(C:Addr)(Q:VK)(acc:Value)(s':Shared):Prop:= ∃v Hf,Inv X pins O Hf s'/\yg v acc/\Q v Hf/\(∃m,s'.heap.Ns C m)/\z2a X pins Hf C
theorem z1T {X:Cx} {tg iter elt:Expr} {ifs:List Expr} {scope:Scope} {pos:Pos} {g:TG} {ti:TT} {te:TE} {N':List Str} {mp:List (Option Nat)} {pins:List (Addr×Obj)} {O:St} {Q:VK} {J:It} {H2:Hp} {s₂:Shared} {it:Addr} {fp:List Addr} {tn:Nat->Heap->Prop} {E:Value->Shared->Prop} {RR:Value->Addr->Result->Shared->Prop} (hc:X.calm=true) (hg:∀ex s H,PG (zp X N' scope ex s H) tg g) (ht:∀ex s H,z8N (zp X N' scope ex s H) ifs ti) (he:∀ex s H,PE (zp X N' scope ex s H) elt te) (hkd:scope.kind=.function) (hnm:∀y∈scope.names,scope.names.lookup y.1=some y.2) (hfr:∀y∈scope.names,y.2=.free->X.env.kindOf y.1=some .cell\/X.env.kindOf y.1=some .free) (hmp:z1C X.N scope.names N' mp=true) (I2:Inv X pins O H2 s₂) (T:zbX X.prog X.w X.K tg J fp it tn) (st2:tn 0 s₂.heap) (f2:∀b∈fp,z2a X pins H2 b) (W:Nat->Nat->List V->Hp->Prop) (w0:∃m,W 0 m [] H2) (turn:∀i m ys H,W i m ys H-> (J.stop i H/\ys.length<=sizeLine/\∀p,H p=none->Q (.ref p) (upd H p (.lst ys)))\/ (J.go i H/\∀x H',J.yld i H x H'->g x (inner mp O) H' λO2 H2=>(O2.length=(inner mp O).length/\∀(i:Nat) v,(inner mp O)[i]? = some (some v)->O2[i]? = some (some v))/\ ti O2 H2 λb H3=>if b=true then te O2 H3 λy H4=>ys.length<=sizeLine/\∃m',m'<m/\W (i+1) m' (ys++[y]) H4 else ∃m',m'<m/\W (i+1) m' ys H3)) (hRR:∀acc C s',jd X pins O C Q acc s'->RR acc C (.ok .next) s'): wpAny (model X.prog X.w) X.A (newList []) (λacc s₃=>wpAny (model X.prog X.w) X.A (newFunctionEnv scope X.env.globals (z2Z X.env scope.names []) [] X.env.qual none .none (some X.env)) (λcenv s₄=> codeAny (model X.prog X.w) X.A (.compStart (.ListComp elt [⟨tg,iter,ifs,0⟩] scope pos) 0 (.ref it) acc {cenv with scope:=relabel scope X.env}) (RR acc cenv.locals) s₄) E s₃) E s₂:=by
 refine _G ?_;have hf2:H2 s₂.heap.objs.size=none:=I2.hok.fresh (_h _);have fA:z2a X pins H2 s₂.heap.objs.size:=I2.fpOk (_h _) hf2;generalize hacc:s₂.heap.objs.size=acc at hf2 fA ⊢;have I3:Inv X pins O H2 {s₂ with heap:=s₂.heap.push {cls:=.type "list",data:=.seq ([]:List Value).toArray}}:=I2.kept (t':=s₂.toks) λb o e=>_c _ e;have ha3:(s₂.heap.push {cls:=.type "list",data:=.seq ([]:List Value).toArray}).get? acc=some (LCg.lst []):=by rw[<- hacc];exact _g _ rfl
 have sz3:(s₂.heap.push {cls:=.type "list",data:=.seq ([]:List Value).toArray}).objs.size=acc+1:=by rw[_as,hacc]
 have kp3:∀b o,s₂.heap.get? b=some o->(s₂.heap.push {cls:=.type "list",data:=.seq ([]:List Value).toArray}).get? b=some o:=λb o e=>_c _ e;show wpAny _ _ _ _ _ {s₂ with heap:=s₂.heap.push {cls:=.type "list",data:=.seq ([]:List Value).toArray}};generalize hs3:({s₂ with heap:=s₂.heap.push {cls:=.type "list",data:=.seq ([]:List Value).toArray}}:Shared)=s₃ at I3 ⊢;have ha3':s₃.heap.get? acc=some (LCg.lst []):=by rw[<- hs3];exact ha3
 have sz3':s₃.heap.objs.size=acc+1:=by rw[<- hs3];exact sz3
 have kp3':∀b o,s₂.heap.get? b=some o->s₃.heap.get? b=some o:=by rw[<- hs3];exact kp3
 have flt:∀b∈fp,b<acc:=λb hb=>by
  obtain⟨o,e,_⟩:=T.obj 0 _ st2 b hb;rw[<- hacc];exact _l e
 have fne:∀b∈fp,b≠acc:=λb hb=>_t (flt b hb);have tn3:tn 0 s₃.heap:=T.keep 0 _ _ st2 λb hb o e=>kp3' b o e;refine z18 ?_;rw[xr];have hex:∀b∈acc::fp,b<s₃.heap.objs.size/\H2 b=none/\b≠X.env.locals/\b∉X.fs/\(b∈X.ex\/X.s₀.heap.objs.size<=b)/\(∀x c,X.env.cells.lookup x=some c->c≠b):=λb hb=>by
  rcases _p.mp hb with z | hb
  ·subst z;exact⟨by rw[sz3'];exact _aR _,hf2,fA.2.1,fA.2.2.1,fA.2.2.2.1,fA.2.2.2.2.1⟩
  ·have q:=f2 b hb;exact⟨by rw[sz3'];exact _aa (flt b hb),q.1,q.2.1,q.2.2.1,q.2.2.2.1,q.2.2.2.2.1⟩
 have I4:=z26 (N':=N') (mp:=mp) (ex:=acc::fp) (s1:={s₃ with heap:=pushCells (s₃.heap.push {cls:=.type "dict",data:=.dict #[]}) scope.names}) I3 hkd hnm hfr hmp hex rfl rfl rfl;have kp4:∀b o,s₃.heap.get? b=some o->(pushCells (s₃.heap.push {cls:=.type "dict",data:=.dict #[]}) scope.names).get? b=some o:=λb o e=>_cI _ _ b o (_c _ e);generalize hs4:({s₃ with heap:=pushCells (s₃.heap.push {cls:=.type "dict",data:=.dict #[]}) scope.names}:Shared)=s₄ at I4 ⊢;have ha4:s₄.heap.get? acc=some (LCg.lst []):=by rw[<- hs4];exact kp4 _ _ ha3'
 have tn4:tn 0 s₄.heap:=T.keep 0 _ _ tn3 λb hb o e=>by rw[<- hs4];exact kp4 b o e
 have Cne:acc≠s₃.heap.objs.size:=by rw[sz3'];exact _t (_aR _)
 have celln:∀b∈acc::fp,∀x c,(z6m X scope s₃.heap.objs.size).cells.lookup x=some c->c≠b:=λb hb=>(I4.ok.exf b hb).2;have stat:∀{H':Hp} {o:Obj},(∀b∈fp,H' b=none)->∀b∈fp,z2a (zp X N' scope (acc::fp) s₃ H2) [(acc,o)] H' b:=λ{H' o} hn b hb=> ⟨hn b hb,_t (by show b<s₃.heap.objs.size;rw[sz3'];exact _aa (flt b hb)),λhf=>I4.ok.exfs b (_C _ hb) hf,.inl (_C _ hb),celln b (_C _ hb),λp hp=>by
   have e:p=(acc,o):=by simpa[zp] using hp
   rw[e];exact _a4 (fne b hb)⟩;have pinA:∀{O':St} {H':Hp} {s':Shared} {its:List Value},Inv (zp X N' scope (acc::fp) s₃ H2) [] O' H' s'->H' acc=none->s'.heap.get? acc=some (LCg.lst its)->Inv (zp X N' scope (acc::fp) s₃ H2) [(acc,LCg.lst its)] O' H' s':=λ{O' H' s' its} J' n' e'=> J'.pins_of λp hp=>by
   have e:p=(acc,LCg.lst its):=by simpa using hp
   subst e;refine⟨e',n',Cne,λhf=>I4.ok.exfs acc _K hf,λv z=>?_⟩;have z':Data.seq _ _=Data.cell v:=z;cases z'
 obtain⟨m0,w0⟩:=w0;have loop:codeAny (model X.prog X.w) X.A (.compLoop (.ListComp elt [⟨tg,iter,ifs,0⟩] scope pos) 0 (.ref it) (.ref acc) (z6m X scope s₃.heap.objs.size)) (RR (.ref acc) s₃.heap.objs.size) s₄:=by
  refine z48 (λn s'=>∃i ys its H',Inv (zp X N' scope (acc::fp) s₃ H2) [] (inner mp O) H' s'/\tn i s'.heap/\(∀b∈fp,H' b=none)/\H' acc=none/\s'.heap.get? acc=some (LCg.lst its)/\yd ys its/\W i n ys H') ?_ m0 ⟨0,[],[],H2,I4,tn4,λb hb=>(f2 b hb).1,hf2,ha4,.nil,w0⟩;rintro n s5 ⟨i,ys,its,H5,I5,tn5,n5,na5,ea5,rv5,w5⟩;have I5':=pinA I5 na5 ea5;rcases turn i n ys H5 w5 with⟨stop,hz,q⟩ | ⟨go,step⟩
  ·refine _D (T.done (zp X N' scope (acc::fp) s₃ H2) rfl rfl rfl hc i _ s5 _ H5 (λ_ _=>False) I5' (stat n5) tn5 stop) (λr s6 ⟨hr,I6⟩=>?_) λ_ _ z=>z;subst hr;have ea6:=(I6.pin (acc,LCg.lst its) (by simp)).1;have un:Un (frs X.stack) (acc::fp) H2 H5 s₃.heap s6.heap:=I6.base;have I7:Inv X pins O H5 s6:=I3.call' (s':=s6) (I6.os) un I6.hok I6.bare λb hb=>by
    rcases _p.mp hb with z | hb;·subst z;exact⟨fA.2.2.2.1,fA.2.1,fA.2.2.2.2.1,fA.2.2.2.2.2⟩
    ·exact⟨(f2 b hb).2.2.2.1,(f2 b hb).2.1,(f2 b hb).2.2.2.2.1,(f2 b hb).2.2.2.2.2⟩
   have C7:z2a X pins H5 s₃.heap.objs.size:=I3.fpOk (_h _) I6.free;refine hRR _ _ s6 ⟨.ref acc,upd H5 acc (.lst ys),I7.track ⟨na5,fA.2⟩ ?_,rfl,q acc na5,?_,?_,C7.2⟩;·exact⟨hz,its,_,rv5,ea6⟩
   ·obtain⟨m,hm,_⟩:=I6.loc;exact⟨m,hm⟩
   ·rw[zn (_a4 Cne)];exact I6.free
  ·refine _D (T.item (zp X N' scope (acc::fp) s₃ H2) rfl rfl rfl hc i _ s5 _ H5 (λ_ _=>False) I5' (stat n5) tn5 go) (λr s6 ⟨u,hr,h6⟩=>?_) λ_ _ z=>z;subst hr;refine _D h6 (λ_ s7 ⟨x,H7,I7,r7,y7,tn7,n7⟩=>?_) λ_ _ z=>z;have I7':=I7.pinned (stat n7) (T.obj _ _ tn7);refine _D (hg _ _ _ _ s7 (inner mp O) H7 x u _ I7' r7 (step x H7 y7)) (λ_ s8 ⟨O8,H8,I8,⟨kl,kv⟩,q8⟩=>?_) λ_ _ z=>z;refine _D (ht _ _ _ _ s8 O8 H8 _ I8 q8) (λb s9 ⟨H9,I9,q9⟩=>?_) λ_ _ z=>z;have pinB:∀{O':St} {H':Hp} {s':Shared},Inv (zp X N' scope (acc::fp) s₃ H2) ([(acc,LCg.lst its)]++z21 fp s7.heap) O' H' s'->(∀b∈fp,H' b=none)/\H' acc=none/\s'.heap.get? acc=some (LCg.lst its)/\tn (i+1) s'.heap/\∀b∈fp,∀o,s7.heap.get? b=some o->s'.heap.get? b=some o:=λ{O' H' s'} J'=>by
    have z:=J'.pin (acc,LCg.lst its) (by simp[zp]);have zz:∀b∈fp,∀o,s7.heap.get? b=some o->s'.heap.get? b=some o/\H' b=none:=λb hb o e=>by
     have y:=J'.pin (b,o) (_B _ (_B _ (vn hb e)));exact⟨y.1,y.2.1⟩
    refine⟨λb hb=>?_,z.2.1,z.1,T.keep _ _ _ tn7 λb hb o e=>(zz b hb o e).1,λb hb o e=>(zz b hb o e).1⟩;obtain⟨o,e,_⟩:=T.obj _ _ tn7 b hb;exact (zz b hb o e).2
   cases b with
   | false=>
    rw[_i (by decide)]at q9 ⊢;obtain⟨m',lt,w9⟩:=q9;obtain⟨z1,z2,z3,z4,_⟩:=pinB I9;exact⟨m',lt,i+1,ys,its,H9,(I9.pins_of (pins':=[]) (λp hp=>absurd hp (by simp))).weak kl.symm kv,z4,z1,z2,z3,rv5,w9⟩ | true=>
    rw[_f rfl]at q9 ⊢;refine _D (he _ _ _ _ s9 O8 H9 _ I9 q9) (λyv s10 ⟨y,H10,I10,r10,hz,m',lt,w10⟩=>?_) λ_ _ z=>z;obtain⟨z1,z2,z3,z4,_⟩:=pinB I10;have zl:its.toArray.size<=sizeLine:=by rw[_q,<- rv5.length];exact hz
    refine append_at (hsz:=zl) z3 λh11 sb ea11=>?_;have I10':=(I10.pins_of (pins':=[]) (λp hp=>absurd hp (by simp))).weak kl.symm kv;have I11:Inv (zp X N' scope (acc::fp) s₃ H2) [] (inner mp O) H10 {s10 with heap:=h11}:=I10'.turned (t':=s10.toks) (λb o hb e=>(sb.2 b hb).trans e) z2 Cne (.inl _K) (celln acc _K) (λp hp=>absurd hp (by simp[zp]));exact⟨m',lt,i+1,ys++[y],its++[yv],H10,I11,T.keep _ _ _ z4 (λb hb o e=>(sb.2 b (fne b hb)).trans e),z1,z2,ea11.trans (_aq some (LCg.lst_snoc its yv)),rv5.append (.cons r10 .nil),w10⟩
 exact codeAny_compStart_list loop (T.self _ 0 _ _ _ tn4 loop)
section
variable {X:Cx}{tg iter elt:Expr}{ifs:List Expr}{scope:Scope}{pos spos py:Pos}{wi:TI}{g:TG}{ti:TT}{te:TE}{N':List Str}{mp:List (Option Nat)}
theorem qT{pins:List (Addr×Obj)}{O:St}{H:Hp}{s:Shared}{h':Heap}{C:Addr}(I:Inv X pins O H s)(f:z2a X pins H C)(sb:Heap.SameBut C s.heap h'):Inv X pins O H {s with heap:=h'}:= I.turned (t':=s.toks) (λb o hb e=>(sb.2 b hb).trans e) f.1 f.2.1 f.2.2.2.1 f.2.2.2.2.1 f.2.2.2.2.2
theorem zfe (N':List Str) (mp:List (Option Nat)) (hc:X.calm=true) (hi:PI X tg iter wi) (hg:∀ex s H,PG (zp X N' scope ex s H) tg g) (ht:∀ex s H,z8N (zp X N' scope ex s H) ifs ti) (he:∀ex s H,PE (zp X N' scope ex s H) elt te) (hkd:scope.kind=.function) (hnm:∀y∈scope.names,scope.names.lookup y.1=some y.2) (hfr:∀y∈scope.names,y.2=.free->X.env.kindOf y.1=some .cell\/X.env.kindOf y.1=some .free) (hmp:z1C X.N scope.names N' mp=true) (hs:∀x,foldedSetIterable iter X.env x=pure x:=by intro _;rfl):PE X (.ListComp elt [⟨tg,iter,ifs,0⟩] scope pos) (zg5 wi mp g ti te):=by
 intro pins s O H Q I h;rw[eval_ListComp];refine _bM (use:=none) rfl hs (vO λy hy hf=>I.ok.has _ (hfr y hy hf)) hkd (λy hy hl=>by rw[hnm y hy,hl]) (thn (hi pins s O H _ I h) λxv s₁ h₁=>thn h₁ λitv s₂ h₂=>?_);obtain⟨it,fp,tn,J,H2,e,I2,T,st2,f2,W,w0,turn⟩:=h₂;subst e;refine z1T (N':=N') (mp:=mp) (O:=O) (pins:=pins) (Q:=Q) (RR:=λacc C=>compPost (model X.prog X.w) X.A X.xe none (EP X pins O Q) acc C) hc hg ht he hkd hnm hfr hmp I2 T st2 f2 W w0 turn ?_;rintro acc C s' ⟨v,Hf,I3,r,q,⟨m,hm⟩,f⟩;exact⟨m,hm,λh' sb=>⟨v,Hf,qT I3 f sb,r,q⟩⟩
end
section
variable {κ:Type} [DecidableEq κ]
def xU(kvs:List (κ×V))(k:κ):Option V:=(kvs.find? λkv=>decide (kv.1=k)).map (·.2)
def uV(kvs:List (κ×V))(k:κ)(v:V):List (κ×V):= if (kvs.any λkv=>decide (kv.1=k))=true then kvs.map (λkv=>if kv.1=k then (kv.1,v) else kv) else kvs++[(k,v)]
theorem xz{p:κ×V}{r:List (κ×V)}{k:κ}(e:p.1=k):xU (p::r) k=some p.2:=by simp[xU,_bh,e]
theorem xx{p:κ×V}{r:List (κ×V)}{k:κ}(e:¬ p.1=k):xU (p::r) k=xU r k:=by simp[xU,_bh,e]
theorem uM(k:κ):∀kvs:List (κ×V),(kvs.any λkv=>decide (kv.1=k))=(xU kvs k).isSome
 | []=>rfl | p::r=>by
  rw[_bn];by_cases e:p.1=k;·simp only[xz e,_bF e,Bool.true_or,Option.isSome_some]
  ·rw[xx e,_ab e,Bool.false_or];exact uM k r
theorem z79(k j:κ)(y:V):∀kvs:List (κ×V),xU (kvs.map λkv=>if kv.1=k then (kv.1,y) else kv) j=(xU kvs j).map λx=>if j=k then y else x
 | []=>rfl | p::r=>by
  have ih:=z79 k j y r;rw[_j];by_cases h:p.1=k
  ·rw[_f h];by_cases e:p.1=j;·rw[xz (p:=(p.1,y)) e,xz e,_H,_f (e.symm.trans h)]
   ·rw[xx (p:=(p.1,y)) e,xx e,ih]
  ·rw[_i h];by_cases e:p.1=j;·rw[xz (p:=p) e,xz e,_H,_i (λz=>h (e.trans z))]
   ·rw[xx (p:=p) e,xx e,ih]
theorem z4D(k j:κ)(y:V):∀kvs:List (κ×V),xU kvs k=none->xU (kvs++[(k,y)]) j=if j=k then some y else xU kvs j
 | [],_=>by
  by_cases e:k=j;·rw[_f e.symm];exact xz (p:=(k,y)) e
  ·rw[_i (λz=>e z.symm)];exact xx (p:=(k,y)) e | p::r,hn=>by
  rw[_bo];have hk:¬ p.1=k:=λz=>by rw[xz z]at hn;cases hn
  rw[xx hk]at hn;have ih:=z4D k j y r hn;by_cases e:p.1=j;·rw[xz e,xz e,_i (λz=>hk (e.trans z))]
  ·rw[xx e,xx e,ih]
theorem z2D(kvs:List (κ×V))(k j:κ)(y:V):xU (uV kvs k y) j=if j=k then some y else xU kvs j:=by
 unfold uV;by_cases a:(kvs.any λkv=>decide (kv.1=k))=true
 ·rw[_f a,z79];rw[uM]at a;by_cases e:j=k
  ·obtain⟨x,hx⟩:=_am.mp a;rw[_f e,e,hx,_H,_f rfl]
  ·rw[_i e];cases xU kvs j with
   | none=>rfl | some x=>rw[_H,_i e]
 ·rw[_i a];refine z4D k j y kvs ?_;rw[uM]at a;cases q:xU kvs k with
  | none=>rfl | some x=>rw[q]at a;exact (a rfl).elim
theorem z17(kvs:List (κ×V))(k:κ)(v:V):(uV kvs k v).length<=kvs.length+1:=by
 unfold uV;split;·rw[_w];omega
 ·rw[_al,_n,_F];omega
theorem z8r.isSome_eq{o:Option V}{u:Option Value}(r:z8r o u):o.isSome=u.isSome:=by cases o with
 | none=>cases u with
  | none=>rfl | some _=>exact (show False from r).elim
 | some _=>cases u with
  | none=>exact (show False from r).elim | some _=>rfl
theorem z8r.getD{o:Option V}{u:Option Value}{d:V}{d':Value}(r:z8r o u)(rd:yg d d'):yg (o.getD d) (u.getD d'):=by cases o with
 | none=>cases u with
  | none=>exact rd | some _=>exact (show False from r).elim
 | some _=>cases u with
  | none=>exact (show False from r).elim | some _=>exact r
theorem KV.val{kvs:List (κ×V)}{vs:List (κ×Value)}(r:KV kvs vs)(k:κ):z8r (xU kvs k) (valueAt vs k):=by
 unfold KV at r;induction r with
 | nil=>exact True.intro | @cons p q ps qs h t ih=>
  obtain⟨h1,h2⟩:=h;by_cases e:p.1=k
  ·have e':q.1=k:=h1.symm.trans e;have b:valueAt (q::qs) k=some q.2:=by simp[valueAt,_bh,e']
   rw[xz e,b];exact h2
  ·have e':¬ q.1=k:=λz=>e (h1.trans z);have b:valueAt (q::qs) k=valueAt qs k:=by simp[valueAt,_bh,e']
   rw[xx e,b];exact ih
theorem KV.any{kvs:List (κ×V)}{vs:List (κ×Value)}(r:KV kvs vs)(k:κ):(kvs.any λkv=>decide (kv.1=k))=vs.any λkv=>decide (kv.1=k):=by
 unfold KV at r;induction r with
 | nil=>rfl | cons h t ih=>rw[_bn,_bn,ih,h.1]
theorem KV.repl{kvs:List (κ×V)}{vs:List (κ×Value)}(r:KV kvs vs)(k:κ){y:V}{u:Value}(ry:yg y u): KV (kvs.map λkv=>if kv.1=k then (kv.1,y) else kv) (vs.map λkv=>if kv.1=k then (kv.1,u) else kv):=by
 unfold KV at r ⊢;induction r with
 | nil=>exact .nil | @cons p q ps qs h t ih=>
  rw[_j,_j];refine .cons ?_ ih;obtain⟨h1,h2⟩:=h;by_cases e:p.1=k;·rw[_f e,_f (h1.symm.trans e)];exact⟨h1,ry⟩
  ·rw[_i e,_i (λz=>e (h1.trans z))];exact⟨h1,h2⟩
theorem KV.put{kvs:List (κ×V)}{vs:List (κ×Value)}(r:KV kvs vs)(k:κ){y:V}{u:Value}(ry:yg y u):KV (uV kvs k y) (stored vs k u):=by
 unfold uV stored;rw[r.any k];by_cases e:(vs.any λkv=>decide (kv.1=k))=true;·rw[_f e,_f e];exact r.repl k ry
 ·rw[_i e,_i e];exact Paired.snoc r ⟨rfl,ry⟩
theorem KV.length{kvs:List (κ×V)}{vs:List (κ×Value)}(r:KV kvs vs):kvs.length=vs.length:=_cw r
end
theorem z8q{P:Program}{w:World}{k:Key}{u:Value}(r:yg (kV k) u):(zy P w).is k u=true:=by cases k with
 | inl i=>obtain⟨t,e⟩:=(show ∃t,u=Value.int i t from r);subst e;exact z5m P w i t | inr x=>obtain⟨t,e⟩:=(show ∃t,u=Value.str x t from r);subst e;exact z0r P w x t
theorem z44{P:Program}{w:World}:∀{ks:List Key}{us:List Value},yd (ks.map kV) us->ItemsAre (zy P w) ks us
 | [],_,r=>by rw[_dL]at r;cases r;exact .nil | k::ks,_,r=>by
  rw[_j]at r;cases r with | cons h t=>exact .cons (z8q h) (z44 t)
abbrev KT(H:Hp):List (List Key×V)->List (List Key×Addr×Value)->Prop:=Paired λp q=>p.1=q.1/\H q.2.1=some (.tup (p.1.map kV))/\yg p.2 q.2.2
theorem KT.val{H:Hp}{kvs:List (List Key×V)}{xs:List (List Key×Addr×Value)}(r:KT H kvs xs)(k:List Key):z8r (xU kvs k) ((atKey xs k).map (·.2)):=by induction r with
 | nil=>exact True.intro | @cons p q ps qs h t ih=>
  obtain⟨h1,_,h2⟩:=h;by_cases e:p.1=k
  ·have e':q.1=k:=h1.symm.trans e;have b:atKey (q::qs) k=some q.2:=by simp[atKey,_bh,e']
   rw[xz e,b];exact h2
  ·have e':¬ q.1=k:=λz=>e (h1.trans z);have b:atKey (q::qs) k=atKey qs k:=by simp[atKey,_bh,e']
   rw[xx e,b];exact ih
theorem KT.repl{H:Hp}{kvs:List (List Key×V)}{xs:List (List Key×Addr×Value)}(r:KT H kvs xs)(k:List Key){y:V}{u:Value}(ry:yg y u): KT H (kvs.map λkv=>if kv.1=k then (kv.1,y) else kv) (xs.map (putAt k u)):=by induction r with
 | nil=>exact .nil | @cons p q ps qs h t ih=>
  rw[_j,_j];refine .cons ?_ ih;obtain⟨h1,h2,h3⟩:=h;unfold putAt;by_cases e:p.1=k;·rw[_f e,_f (h1.symm.trans e)];exact⟨h1,h2,ry⟩
  ·rw[_i e,_i (λz=>e (h1.trans z))];exact⟨h1,h2,h3⟩
theorem KT.put{H:Hp}{kvs:List (List Key×V)}{xs:List (List Key×Addr×Value)}(r:KT H kvs xs)(k:List Key){b:Addr}{y:V}{u:Value}(hb:H b=some (.tup (k.map kV)))(ry:yg y u): KT H (uV kvs k y) (storedH xs k b u):=by
 have e:(kvs.any λkv=>decide (kv.1=k))=(atKey xs k).isSome:=by rw[uM,(r.val k).isSome_eq,_dg]
 unfold uV storedH;rw[e];by_cases q:(atKey xs k).isSome=true;·rw[_f q,_f q];exact r.repl k ry
 ·rw[_i q,_i q];exact Paired.snoc r ⟨rfl,hb,ry⟩
theorem KT.keeps{H H':Hp}{kvs:List (List Key×V)}{xs:List (List Key×Addr×Value)}(r:KT H kvs xs)(ht:∀b ys,H b=some (.tup ys)->H' b=some (.tup ys)):KT H' kvs xs:= Paired.mapP r λ_ _ z=>⟨z.1,ht _ _ z.2.1,z.2.2⟩
section
variable {P:Program}{w:World}{H:Hp}{h:Heap}{a:Addr}
theorem zi4{u:HO}(ok:HOk P w H h)(e:Rd H a u):yq P w H h a u:=e.ok ok
theorem z6n{kvs:List (Key×V)}(ok:HOk P w H h)(e:Rd H a (.dK kvs)):kvs.length<=sizeLine/\(a==sysModules)=false/\∃vs,KV kvs vs/\h.DictOf (zy P w) a vs:= show yq P w H h a (.dK kvs) from zi4 ok e
theorem zjZ{kvs:List (Key×V)}(ok:HOk P w H h)(e:H a=some (.dK kvs)):kvs.length<=sizeLine/\(a==sysModules)=false/\∃vs,KV kvs vs/\h.DictOf (zy P w) a vs:=z6n ok (.inl e)
theorem jC{ks:List Key}(ok:HOk P w H h)(e:H a=some (.tup (ks.map kV))):(tupleKind (zy P w)).is h ks a:=by
 obtain⟨_,its,r,o,h1,h2,_,n,h3⟩:=(show yq P w H h a (.tup (ks.map kV)) from ok a _ e);exact⟨o,its.toArray,n,h1,h2,h3,by simpa using z44 r⟩
theorem z4Y{kvs:List (List Key×V)}(ok:HOk P w H h)(e:Rd H a (.dT kvs)):kvs.length<=sizeLine/\(a==sysModules)=false/\ ∃xs,KT H kvs xs/\h.DictOfH (tupleKind (zy P w)) a xs:=by
 obtain⟨z,y,xs,r,o,es,ep,h1,h2,h3,h4,h5⟩:=(show yq P w H h a (.dT kvs) from zi4 ok e);refine⟨z,y,xs,r,o,es,ep,h1,h2,h3,h4,λx hx=>?_,h5⟩;have all:∀{l:List (List Key×V)}{m:List (List Key×Addr×Value)},KT H l m->∀x∈m,(tupleKind (zy P w)).is h x.1 x.2.1:=by
  intro l m q;induction q with
  | nil=>intro x hx;exact nomatch hx | @cons p q ps qs hq t ih=>
   intro x hx;rcases _p.mp hx with e | hx
   ·subst e;exact jC ok (by rw[<- hq.1];exact hq.2.1)
   ·exact ih x hx
 exact all r x hx
theorem zj2{kvs:List (List Key×V)}(ok:HOk P w H h)(e:H a=some (.dT kvs)):kvs.length<=sizeLine/\(a==sysModules)=false/\ ∃xs,KT H kvs xs/\h.DictOfH (tupleKind (zy P w)) a xs:=z4Y ok (.inl e)
end
def zbH(H:Hp)(a:Addr)(y:V)(r:Option V):Prop:= (∃kvs k,Rd H a (.dK kvs)/\y=kV k/\r=xU kvs k)\/∃kvs k b,Rd H a (.dT kvs)/\y=.ref b/\H b=some (.tup (k.map kV))/\r=xU kvs k
def ziE(H:Hp)(a:Addr)(y v:V)(H':Hp):Prop:= (∃kvs k,H a=some (.dK kvs)/\y=kV k/\kvs.length<sizeLine/\H'=upd H a (.dK (uV kvs k v)))\/ ∃kvs k b,H a=some (.dT kvs)/\y=.ref b/\H b=some (.tup (k.map kV))/\kvs.length<sizeLine/\H'=upd H a (.dT (uV kvs k v))
theorem ziE.t{H:Hp}{a b:Addr}{kvs:List (List Key×V)}{k:List Key}{v:V}(e:H a=some (.dT kvs))(eb:H b=some (.tup (k.map kV)))(hl:kvs.length<sizeLine): ziE H a (.ref b) v (upd H a (.dT (uV kvs k v))):=.inr ⟨kvs,k,b,e,rfl,eb,hl,rfl⟩
section
variable {X:Cx}{pins:List (Addr×Obj)}{O:St}{H:Hp}{s:Shared}{a:Addr}{y v:V}{u r:Value}{o:Option V}{A:Around}{E:Value->Shared->Prop}
theorem Inv.big(I:Inv X pins O H s):sysModules<s.heap.objs.size:=by
 have h:mainGlobals<s.heap.objs.size:=(I.mod.glob.keeps I.bk).lt;exact _cS (by decide) h
theorem za1 {Q:Value->Shared->Prop} (hu:A.units+1<cLine) (I:Inv X pins O H s) (g:zbH H a y (some v)) (ry:yg y u) (h:∀w' s',Inv X pins O H s'->yg v w'->Q w' s'): wpAny (model X.prog X.w) A (getItem (.ref a) u) Q E s:=by
 rcases g with⟨kvs,k,e,ey,l⟩ | ⟨kvs,k,b,e,ey,eb,l⟩
 ·subst ey;obtain⟨z,hd,vs,rel,dd⟩:=z6n I.hok e;obtain⟨w',hw,rw'⟩:=z8r.some_of (v:=v) (o:=valueAt vs k) (by rw[l];exact rel.val k);exact wpAny_getItem_of (z8q ry) dd.mapOf hw (h w' _ (I.tok _) rw')
 ·subst ey;cases (show u=Value.ref b from ry);obtain⟨z,hd,xs,rel,dd⟩:=z4Y I.hok e;obtain⟨w',hw,rw'⟩:=z8r.some_of (v:=v) (o:=(atKey xs k).map (·.2)) (by rw[l];exact rel.val k);obtain⟨p,hp,hp2⟩:=_x.mp hw;refine wpAny_getItem_heap (_bu hu) (jC I.hok eb) dd hp ?_;rw[hp2];exact h w' _ (I.tok _) rw'
theorem zlt{Q:Value->Shared->Prop}(hu:A.units+1<cLine)(I:Inv X pins O H s)(g:zbH H a y o)(ry:yg y u)(h:∀s',Inv X pins O H s'->Q (.bool o.isSome) s'): wpAny (model X.prog X.w) A (compareOp .In u (.ref a)) Q E s:=by
 rcases g with⟨kvs,k,e,ey,l⟩ | ⟨kvs,k,b,e,ey,eb,l⟩
 ·subst ey;obtain⟨z,hd,vs,rel,dd⟩:=z6n I.hok e;refine wpAny_in_of (z8q ry) hd dd.mapOf ?_;rw[<- (rel.val k).isSome_eq,<- l];exact h _ (I.tok _)
 ·subst ey;cases (show u=Value.ref b from ry);obtain⟨z,hd,xs,rel,dd⟩:=z4Y I.hok e;refine wpAny_in_heap (_bu hu) (jC I.hok eb) hd dd ?_;have q:=(rel.val k).isSome_eq;rw[_dg]at q;rw[<- q,<- l];exact h _ (I.tok _)
theorem zfL{Q:Value->Shared->Prop}(hu:A.units+1<cLine)(I:Inv X pins O H s)(g:zbH H a y o)(ry:yg y u)(h:∀s',Inv X pins O H s'->Q (.bool (!o.isSome)) s'): wpAny (model X.prog X.w) A (compareOp .NotIn u (.ref a)) Q E s:=by
 rcases g with⟨kvs,k,e,ey,l⟩ | ⟨kvs,k,b,e,ey,eb,l⟩
 ·subst ey;obtain⟨z,hd,vs,rel,dd⟩:=z6n I.hok e;refine wpAny_notIn_of (z8q ry) hd dd.mapOf ?_;rw[<- (rel.val k).isSome_eq,<- l];exact h _ (I.tok _)
 ·subst ey;cases (show u=Value.ref b from ry);obtain⟨z,hd,xs,rel,dd⟩:=z4Y I.hok e;refine wpAny_notIn_heap (_bu hu) (jC I.hok eb) hd dd ?_;have q:=(rel.val k).isSome_eq;rw[_dg]at q;rw[<- q,<- l];exact h _ (I.tok _)
theorem z8K {h':Heap} {t':Nat} {ob:HO} (I:Inv X pins O H s) (mu:Mut (H a)) (hs:Heap.SameBut a s.heap h') (he:∃q,h'.get? a=some q) (new:yq X.prog X.w (upd H a ob) h' a ob): Inv X pins O (upd H a ob) {s with heap:=h',toks:=t'}:= I.write (x:=a) (e:=a) mu (.inl rfl) (λb q hb z=>(hs.2 b hb).trans z) he new
theorem zgy{P:Program}{w:World}{H':Hp}{h':Heap}{kvs:List (Key×V)}{vs:List (Key×Value)}(z:kvs.length<=sizeLine)(hd:(a==sysModules)=false)(rel:KV kvs vs)(dd:h'.DictOf (zy P w) a vs): yq P w H' h' a (.dK kvs):=⟨z,hd,vs,rel,dd⟩
theorem z9m{H':Hp}{Q:Unit->Shared->Prop}(hu:A.units+1<cLine)(I:Inv X pins O H s)(g:ziE H a y v H')(ry:yg y u)(rv:yg v r)(h:∀s',Inv X pins O H' s'->Q () s'): wpAny (model X.prog X.w) A (setItem (.ref a) u r) Q E s:=by
 rcases g with⟨kvs,k,e,ey,l,eH⟩ | ⟨kvs,k,b,e,ey,eb,l,eH⟩
 ·subst ey eH;obtain⟨z,hd,vs,rel,dd⟩:=zjZ I.hok e;have hz:vs.length<=sizeLine:=by rw[<- rel.length];exact z
  have hl:(uV kvs k v).length<=sizeLine:=by have:=z17 kvs k v;omega
  refine wpAny_setItem_pairs (hsz:=hz) (z8q ry) dd λh' dd' hs=>h _ ?_;have he:∃q,h'.get? a=some q:=let ⟨q,_,_,hq,_⟩:=dd';⟨q,hq⟩;exact z8K I (by rw[e];exact True.intro) hs he (zgy hl hd (rel.put k rv) dd')
 ·subst ey eH;cases (show u=Value.ref b from ry);obtain⟨z,hd,xs,rel,dd⟩:=zj2 I.hok e;have hz:xs.length<=sizeLine:=by rw[<- _cw rel];exact z
  have hl:(uV kvs k v).length<=sizeLine:=by have:=z17 kvs k v;omega
  refine wpAny_setItem_heap (hsz:=hz) (_bu hu) (jC I.hok eb) dd λh' dd' hs=>h _ ?_;obtain⟨q,es,ep,hq,h2,h3,h4,_,h5⟩:=dd';refine z8K I (by rw[e];exact True.intro) hs ⟨q,hq⟩ ⟨hl,hd,_,(rel.put k eb rv).keeps λc ys ec=>?_,q,es,ep,hq,h2,h3,h4,h5⟩;rw[zn (ziZ ec e (λz=>nomatch z))];exact ec
end
def zjS(i:Expr):Prop:=∀ov iv,subscripted i false ov iv=operate [ov,iv] (getItem ov iv)
theorem zfW{prog:Program}{w:World}{A:Around}{E:Value->Shared->Prop}{s:Shared}{env:Env}{value slice:Expr}{pos:Pos}{T id:String}{Q:Value->Shared->Prop} (hl:typeLookup (.type T) "__getitem__"=pure (some (.builtin id)))(hs:zjS slice) (h:wpAny (model prog w) A (eval value env) (λo s₁=>wpAny (model prog w) A (eval slice env) (λi s₂=>s₂.TypeIs o T/\wpAny (model prog w) A (getItem o i) Q E s₂) E s₁) E s): wpAny (model prog w) A (eval (.Subscript value slice pos) env) Q E s:=by
 refine Subscript_ (_D h (λo s₁ h₁=>_D h₁ (λi s₂ h₂=>?_) λ_ _ x=>x) λ_ _ x=>x);obtain⟨hT,h₂⟩:=h₂;unfold subscriptTail;refine _a ?_;rw[getitemInPython_of_ne hT.not_modules];refine _a (wpAny_specialOf hT hl ?_);have fin:wpAny (model prog w) A (subscripted slice false o i) (λr s₃=>wpAny (model prog w) A (letTemporaryGo value o r >>= λ_=>pure r) Q E s₃) E s₂:=by
  rw[hs o i];exact wpAny_operating (_D h₂ (λr s₃ h₃=>_a (wpAny_letTemporaryGo (_b h₃))) λ_ _ x=>x)
 first
  | exact _b (_a fin) | exact _a (_b (_a fin)) | exact _a fin
theorem z5X{X:Cx}{pins:List (Addr×Obj)}{O:St}{H:Hp}{s:Shared}{a:Addr}{y:V}{o:Option V}(I:Inv X pins O H s)(g:zbH H a y o):s.TypeIs (.ref a) "dict":=by
 rcases g with⟨kvs,k,e,_,_⟩ | ⟨kvs,k,b,e,_,_,_⟩
 ·obtain⟨_,_,vs,_,dd⟩:=z6n I.hok e;exact dd.typeIs
 ·obtain⟨_,_,xs,_,dd⟩:=z4Y I.hok e;exact dd.typeIs
def zjl(td ty:TE):TE:=λO H Q=>td O H λx H1=>ty O H1 λy H2=>∃a v,x=.ref a/\zbH H2 a y (some v)/\Q v H2
def zjk(td ty tv:TE):TS:=λD O H=>tv O H λv H1=>td O H1 λx H2=>ty O H2 λy H3=>∃a H4,x=.ref a/\ziE H3 a y v H4/\D.nx O H4
section
variable {X:Cx}{o i e value:Expr}{pos pos' tpos:Pos}{td ty tv:TE}
theorem ze6(hu:X.A.units+1<cLine)(ho:PE X o td)(hi:PE X i ty)(hs:zjS i):PE X (.Subscript o i pos) (zjl td ty):=by
 intro pins s O H Q I h;refine zfW PySem.F.slot_dict_getitem.lookup hs (thn (ho pins s O H _ I h) λu s1 ⟨x,H1,I1,rx,q1⟩=>thn (hi pins s1 O H1 _ I1 q1) λiv s2 ⟨y,H2,I2,ry,a,v,ex,g,q2⟩=>?_);subst ex;obtain rfl:u=Value.ref a:=rx;exact⟨z5X I2 g,za1 hu I2 g ry λw' s3 I3 rw'=>⟨v,H2,I3,rw',q2⟩⟩
theorem zew(hu:X.A.units+1<cLine)(ho:PE X o td)(hi:PE X i ty)(hv:PE X value tv)(hs:swapsWith value (some (.Subscript o i pos')) pos.line X.env=pure false): PS X (.Assign [.Subscript o i pos'] value pos) (zjk td ty tv):=by
 intro pins s O H D I h;refine wpAny_Assign_Subscript (thn (hv pins s O H _ I h) λr s1 ⟨v,H1,I1,rv,q1⟩=>thn (ho pins s1 O H1 _ I1 q1) λu s2 ⟨x,H2,I2,rx,q2⟩=>thn (hi pins s2 O H2 _ I2 q2) λiv s3 ⟨y,H3,I3,ry,a,H4,ex,g,q3⟩=>?_) hs;subst ex;obtain rfl:u=Value.ref a:=rx;exact z9m hu I3 g ry rv λs4 I4=>⟨O,H4,I4,q3⟩
end
theorem zce{P:Program}{w:World}{H:Hp}(h:Heap)(hb:sysModules<h.objs.size):yq P w H (h.push {cls:=.type "dict",data:=.dict #[]}) h.objs.size (.dT []):= ⟨_Y _,beq_eq_false_iff_ne.mpr (_a4 (_t hb)),[],.nil,_,#[],0,_g _ rfl,⟨rfl,rfl,rfl⟩,rfl,rfl,List.nodup_nil⟩
def zho:TE:=λ_ H Q=>∀p,H p=none->Q (.ref p) (upd H p (.dT []))
section
variable {X:Cx}{pos:Pos}
theorem zcU:PE X (.Dict [] [] pos) zho:=λpins s O H Q I h=> wpAny_Dict_empty ⟨.ref s.heap.objs.size,_,I.laid (a:=s.heap.objs.size) (o:=.dT []) (t':=s.toks) (λ_ _ q=>_c _ q) (_h _) (zce s.heap I.big),rfl,h _ (I.hok.fresh (_h _))⟩
end
structure M2(X:Cx)(o:Expr)(m:Str)(apos:Pos)(e f:Expr)(cpos:Pos):Prop where
 base:attributeBase o m X.env (eval o X.env)=eval o X.env
 few:((backTo cpos (starEach [e,f] X.env)).all (λx=>!x.1)&&(backToKw cpos (keywordEach [] X.env)).all (λx=>x.1.isSome) && decide (([e,f]:List Expr).length+([]:List Keyword).length+(if ([]:List Keyword).isEmpty then 0 else 1)<30))=true
 line:(apos.endLine==cpos.line)=true
 trees:backTo cpos (starEach [e,f] X.env)=[(false,eval e X.env),(false,eval f X.env)]
def IsD(H:Hp)(a:Addr):Prop:=(∃kvs,Rd H a (.dK kvs))\/∃kvs,Rd H a (.dT kvs)
theorem zdC{X:Cx}{pins:List (Addr×Obj)}{O:St}{H:Hp}{s:Shared}{a:Addr}(I:Inv X pins O H s)(d:IsD H a): s.TypeIs (.ref a) "dict"/\(∀b,Value.ref a=.ref b->∃ob,s.heap.get? b=some ob/\ob.dict=none)/\(a==sysModules)=false:=by
 rcases d with⟨kvs,e⟩ | ⟨kvs,e⟩
 ·obtain⟨_,hd,vs,_,dd⟩:=z6n I.hok e;refine⟨dd.typeIs,λb q=>?_,hd⟩;cases q;obtain⟨ob,_,_,h1,h2,_⟩:=dd;exact⟨ob,h1,h2.2.1⟩
 ·obtain⟨_,hd,xs,_,dd⟩:=z4Y I.hok e;refine⟨dd.typeIs,λb q=>?_,hd⟩;cases q;obtain⟨ob,_,_,h1,h2,_⟩:=dd;exact⟨ob,h1,h2.2.1⟩
section
variable {X:Cx}{pins:List (Addr×Obj)}{O:St}{H:Hp}{s:Shared}{a:Addr}{y d:V}{u r:Value}{o:Option V}{A:Around}{E:Value->Shared->Prop}
theorem zgT{Q:Value->Shared->Prop}(hu:A.units+1<cLine)(I:Inv X pins O H s)(g:zbH H a y o)(ry:yg y u)(rd:yg d r)(h:∀w' s',Inv X pins O H s'->yg (o.getD d) w'->Q w' s'): wpAny (model X.prog X.w) A (call (.builtin "dict.get") [.ref a,u,r]) Q E s:=by
 rcases g with⟨kvs,k,e,ey,l⟩ | ⟨kvs,k,b,e,ey,eb,l⟩
 ·subst ey;obtain⟨z,hd,vs,rel,dd⟩:=z6n I.hok e;refine call_meetsIn _ch dd.typeIs PySem.F.entry_dict_get (PySem.F.args_dict_get_3 _ _ _) (meets_dict_get_default (zy X.prog X.w) a (z8q ry) hd r) ⟨_,dd.mapOf,h _ _ (I.tok _) ?_⟩;rw[l];exact (rel.val k).getD rd
 ·subst ey;cases (show u=Value.ref b from ry);obtain⟨z,hd,xs,rel,dd⟩:=z4Y I.hok e;refine call_meetsIn _ch dd.typeIs PySem.F.entry_dict_get (PySem.F.args_dict_get_3 _ _ _) (meetsH_dict_get_default (tupleKind (zy X.prog X.w)) a b hd r) ⟨_bu hu,k,xs,jC I.hok eb,dd,h _ _ (I.tok _) ?_⟩;rw[l];exact (rel.val k).getD rd
end
def zi6(td ty tx:TE):TE:=λO H Q=>td O H λx H1=>∃a,x=.ref a/\IsD H1 a/\ty O H1 λy H2=>tx O H2 λz H3=>∃o,zbH H3 a y o/\Q (o.getD z) H3
section
variable {X:Cx}{o e f:Expr}{apos cpos:Pos}{td ty tx:TE}
theorem zbR(hu:X.A.units+1<cLine)(ho:PE X o td)(he:PE X e ty)(hf:PE X f tx)(m:M2 X o "get" apos e f cpos):PE X (.Call (.Attribute o "get" apos) [e,f] [] cpos) (zi6 td ty tx):=by
 intro pins s O H Q I h;refine wpAny_Call_method m.base m.few m.line PySem.F.plainAttrs_dict _ch PySem.F.type_dict_get (thn (ho pins s O H _ I h) λu s1 ⟨x,H1,I1,rx,a,ex,d,q1⟩=>?_);subst ex;obtain rfl:u=Value.ref a:=rx;obtain⟨t1,t2,_⟩:=zdC I1 d;refine⟨t1,t2,?_⟩;rw[m.trees];refine _bt rfl (_cA (_bX (thn (he pins s1 O H1 _ I1 q1) λiv s2 ⟨y,H2,I2,ry,q2⟩=> _bX (thn (hf pins s2 O H2 _ I2 q2) λfv s3 ⟨z,H3,I3,rz,ov,g,q3⟩=>_dc ?_))));exact zgT hu I3 g ry rz λw' s4 I4 rw'=>⟨_,H3,I4,rw',q3⟩
end
end L2
set_option maxHeartbeats 4000000
namespace Dd
open L2
theorem zc2(xs:List Expr)(k:Nat)(p:Pos)(es:List Expr)(env:Env):starEach (.Tuple xs k p::es) env=(false,eval (.Tuple xs k p) env)::starEach es env:=rfl
theorem zcu(xs:List Expr)(p:Pos)(es:List Expr)(env:Env):starEach (.List xs p::es) env=(false,eval (.List xs p) env)::starEach es env:=rfl
theorem wn(f:Expr)(xs:List Expr)(ks:List Keyword)(p:Pos)(es:List Expr)(env:Env):starEach (.Call f xs ks p::es) env=(false,eval (.Call f xs ks p) env)::starEach es env:=rfl
theorem zbV(a:Expr)(o:Operator)(b:Expr)(p:Pos)(es:List Expr)(env:Env):starEach (.BinOp a o b p::es) env=(false,eval (.BinOp a o b p) env)::starEach es env:=rfl
theorem z2X(a b:Expr)(p:Pos)(es:List Expr)(env:Env):starEach (.Subscript a b p::es) env=(false,eval (.Subscript a b p) env)::starEach es env:=rfl
theorem yn(a:Expr)(g:List Comprehension)(sc:Scope)(p:Pos)(es:List Expr)(env:Env):starEach (.ListComp a g sc p::es) env=(false,eval (.ListComp a g sc p) env)::starEach es env:=rfl
theorem z6D(a:Expr)(o:List CmpOp)(b:List Expr)(p:Pos)(es:List Expr)(env:Env):starEach (.Compare a o b p::es) env=(false,eval (.Compare a o b p) env)::starEach es env:=rfl
theorem z23(c:Const)(j:Nat)(p:Pos)(es:List Expr)(env:Env):starEach (.Constant c j p::es) env=(false,eval (.Constant c j p) env)::starEach es env:=rfl
theorem zB(x:Str)(p:Pos)(es:List Expr)(env:Env):starEach (.Name x p::es) env=(false,eval (.Name x p) env)::starEach es env:=rfl
inductive D where | non | bl (b:Bool) | int (i:Int) | str (x:Str) | tup (xs:List D) | lst (xs:List D) | dct | loc (l:Nat) | dlo (l:Nat) | fn (x:Str) | exc (x:Str) | scr (xs:List D)
abbrev Sto:=List (List D)
abbrev Ev:=List (Option D)
inductive R(α:Type) where | ok (a:α)(s:Sto) | ex (c:Str)(s:Sto) | no
def R.bind{α β:Type}(r:R α)(k:α->Sto->R β):R β:=match r with
 | .ok a s=>k a s | .ex c s=>.ex c s | .no=>.no
@[simp] theorem R.bind_ok {α β:Type}(a:α)(s:Sto)(k:α->Sto->R β):(R.ok a s).bind k=k a s:=id rfl
abbrev Rb:=@R.bind_ok
def D.flat:D->Bool
 | .tup xs=>flats xs | .lst xs=>flats xs | .scr xs=>flats xs | .loc _=>false | .dlo _=>false | _=>true
where flats:List D->Bool
 | []=>true | x::xs=>x.flat&&flats xs
def zl1(C a:Addr):HO:=.ext λh=>∃o vs,h.get? a=some o/\o.cls=.ref C/\o.data=.fields vs
structure Gm where
 m:Str->Option Value
 K:W.Frag
abbrev gm(X:Cx):Gm:=⟨X.mg,X.K⟩
def IsL(H:Hp)(a:Addr):Prop:=∃vs,H a=some (.lst vs)
def IsC(H:Hp)(a:Addr):Prop:=(∃kvs,H a=some (.dT kvs))\/(∃o kvs,H a=some (.frz o (.dT kvs)))\/(∃kvs,kvs≠[]/\H a=some (.dK kvs))\/∃o kvs,H a=some (.frz o (.dK kvs))
def Own(H:Hp)(Y:List Addr)(b:Addr):Prop:=∃a∈Y,∃kvs k,H a=some (.dK kvs)/\(k,V.ref b)∈kvs
theorem IsL.notC{H:Hp}{a:Addr}(h:IsL H a)(h':IsC H a):False:=by obtain⟨_,e⟩:=h;rcases h' with⟨_,e'⟩ | ⟨_,_,e'⟩ | ⟨_,_,e'⟩ | ⟨_,_,e'⟩<;>rw[e]at e'<;>cases e'
def z4W:Key->D
 | .inl i=>.int i | .inr x=>.str x
def z8i:V->Option D
 | .int i=>some (.int i) | .bl b=>some (.bl b) | _=>none
def zd0:List D->List (List Key×V)->Prop
 | [],kvs=>kvs=[] | d::ds,kvs=>∃k v x r,kvs=(k,v)::r/\z8i v=some x/\d=.tup [.tup (k.map z4W),x]/\zd0 ds r
def KL(K:W.Frag)(a:Addr)(xs:List V):Prop:=∃(o:Obj)(its:Array Value)(n:Nat),K.lookup a=some o/\o.cls=.type "list"/\o.dict=none/\o.data=.seq its n/\its.size<=sizeLine/\yd xs its.toList
section
variable (mg:Gm)
mutual
def Den(H:Hp)(Y:List Addr):D->V->Prop
 | .non,v=>v=.non | .bl b,v=>v=.bl b | .int i,v=>v=.int i | .str x,v=>v=.str x | .tup ds,v=>∃a vs,v=.ref a/\H a=some (.tup vs)/\zm H Y ds vs | .lst ds,v=>∃a o vs,v=.ref a/\H a=some (.frz o (.lst vs))/\zm H Y ds vs | .dct,v=>∃a,v=.ref a/\H a=some (.dK []) | .loc l,v=>∃a,v=.ref a/\Y[l]? = some a/\IsL H a | .dlo l,v=>∃a,v=.ref a/\Y[l]? = some a/\IsC H a | .fn x,v=>∃a,v=.ref a/\mg.m x=some (.ref a) | .exc x,v=>∃a C,v=.ref a/\mg.m x=some (.ref C)/\H a=some (zl1 C a) | .scr ds,v=>∃a vs,v=.ref a/\((∃o,H a=some (.frz o (.lst vs)))\/KL mg.K a vs)/\zm H Y ds vs
def zm(H:Hp)(Y:List Addr):List D->List V->Prop
 | [],vs=>vs=[] | d::ds,vs=>∃v r,vs=v::r/\Den H Y d v/\zm H Y ds r
end
def z3E(H:Hp)(Y:List Addr):List D->List (Key×V)->Prop
 | [],kvs=>kvs=[] | d::ds,kvs=>∃k ys b vs r,kvs=(Sum.inl k,V.ref b)::r/\zm mg H Y ys vs/\((d=.tup [.int k,.lst ys]/\H b=some (.lst vs))\/(d=.tup [.int k,.lst ys,.non]/\∃o,H b=some (.frz o (.lst vs))))/\z3E H Y ds r
def zfc(ys:List D):Prop:=∀d∈ys,∃k zs,d=.tup [.int k,.lst zs,.non]
def vo(H:Hp)(Y:List Addr)(xs:List D)(a:Addr):Prop:=(∃vs,H a=some (.lst vs)/\zm mg H Y xs vs)\/(∃kvs,H a=some (.dT kvs)/\zd0 xs kvs)\/(∃o kvs ys,H a=some (.frz o (.dT kvs))/\xs=.non::ys/\zd0 ys kvs)\/(∃kvs,kvs≠[]/\H a=some (.dK kvs)/\z3E mg H Y xs kvs)\/∃o kvs ys,H a=some (.frz o (.dK kvs))/\xs=.non::ys/\z3E mg H Y ys kvs/\zfc ys/\kvs≠[]
structure Rep(H:Hp)(Y:List Addr)(s:Sto):Prop where
 len:Y.length=s.length
 nd:Y.Nodup
 cell:∀(l:Nat)(xs:List D),s[l]? = some xs->∃a,Y[l]? = some a/\vo mg H Y xs a
 flat:∀xs∈s,D.flat.flats xs=true
 own:∀b,Own H Y b->b∉Y
 uq:∀a∈Y,∀a'∈Y,∀kvs kvs' (i j:Nat) k k' b,H a=some (.dK kvs)->H a'=some (.dK kvs')->kvs[i]? = some (k,V.ref b)->kvs'[j]? = some (k',V.ref b)->a=a'/\i=j
structure yX(H:Hp)(Y:List Addr)(H':Hp)(Y':List Addr)(s':Sto):Prop where
 rep:Rep mg H' Y' s'
 pre:Y <+: Y'
 keep:∀b o,H b=some o->b∉Y->(Own H Y b->∀vs,o≠.lst vs)->H' b=some o
 new:∀a∈Y',a∉Y->H a=none
 mt:∀a∈Y,(IsL H a/\IsL H' a)\/(IsC H a/\IsC H' a/\∀o u,H a=some (.frz o u)->H' a=some (.frz o u))
 dom:∀b,H' b=none->H b=none
 ow:∀b,Own H' Y' b->Own H Y b\/H b=none
end
section
variable {mg:Gm}{H H' H1 H2:Hp}{Y Y' Y1 Y2:List Addr}{s s' s1 s2:Sto}
theorem vo.kind{xs:List D}{a:Addr}(h:vo mg H Y xs a):IsL H a\/IsC H a:=h.imp (λ⟨vs,e,_⟩=>⟨vs,e⟩) λh=>h.imp (λ⟨k,e,_⟩=>⟨k,e⟩) λh=>h.imp (λ⟨o,k,_,e,_⟩=>⟨o,k,e⟩) λh=>h.imp (λ⟨k,n,e,_⟩=>⟨k,n,e⟩) λ⟨o,k,_,e,_⟩=>⟨o,k,e⟩
theorem Rep.mt(r:Rep mg H Y s):∀a∈Y,IsL H a\/IsC H a:=λa ha=>by
 obtain⟨l,hl,e⟩:=_z.mp ha;have hl':l<s.length:=by rw[<- r.len];exact hl
 obtain⟨b,e1,c⟩:=r.cell l s[l] (_e hl');rw[_e hl]at e1;have:Y[l]=b:=_E e1;rw[<- e,this];exact c.kind
theorem Rep.at_(r:Rep mg H Y s){l:Nat}{xs:List D}{a:Addr}(h:s[l]? = some xs)(ha:Y[l]? = some a)(k:IsL H a):∃vs,H a=some (.lst vs)/\zm mg H Y xs vs:=by
 obtain⟨b,e1,c⟩:=r.cell l xs h;rw[ha]at e1;cases e1;rcases c with c | c;·exact c
 ·exact (k.notC (c.imp (λ⟨k,e,_⟩=>⟨k,e⟩) λh=>h.imp (λ⟨o,k,_,e,_⟩=>⟨o,k,e⟩) λh=>h.imp (λ⟨k,n,e,_⟩=>⟨k,n,e⟩) λ⟨o,k,_,e,_⟩=>⟨o,k,e⟩)).elim
theorem Rep.dic(r:Rep mg H Y s){l:Nat}{xs:List D}{a:Addr}(h:s[l]? = some xs)(ha:Y[l]? = some a)(k:IsC H a):(∃kvs,H a=some (.dT kvs)/\zd0 xs kvs)\/(∃o kvs ys,H a=some (.frz o (.dT kvs))/\xs=.non::ys/\zd0 ys kvs)\/(∃kvs,kvs≠[]/\H a=some (.dK kvs)/\z3E mg H Y xs kvs)\/∃o kvs ys,H a=some (.frz o (.dK kvs))/\xs=.non::ys/\z3E mg H Y ys kvs/\zfc ys/\kvs≠[]:=by
 obtain⟨b,e1,c⟩:=r.cell l xs h;rw[ha]at e1;cases e1;rcases c with⟨vs,e,_⟩ | c;·exact (IsL.notC ⟨vs,e⟩ k).elim
 ·exact c
theorem yX.refl(r:Rep mg H Y s):yX mg H Y H Y s:=⟨r,_cn _,λ_ _ h _ _=>h,λa h1 h2=>absurd h1 h2,λa ha=>(r.mt a ha).imp (λh=>⟨h,h⟩) λh=>⟨h,h,λ_ _ q=>q⟩,λ_ h=>h,λ_ h=>.inl h⟩
theorem yX.trans(a:yX mg H Y H1 Y1 s1)(b:yX mg H1 Y1 H2 Y2 s2):yX mg H Y H2 Y2 s2:=by
 refine⟨b.rep,a.pre.trans b.pre,λc o h n g=>?_,λc h1 h2=>?_,λc hc=>?_,λc h=>a.dom c (b.dom c h),λc h=>(b.ow c h).elim (a.ow c) λz=>.inr (a.dom c z)⟩
 ·refine b.keep c o (a.keep c o h n g) (λz=>?_) λz=>?_;·rw[a.new c z n]at h;cases h
  ·rcases a.ow c z with z | z;·exact g z
   ·rw[z]at h;cases h
 ·by_cases h3:c∈Y1;·exact a.new c h3 h2
  ·exact a.dom c (b.new c h1 h3)
 ·have hc1:c∈Y1:=a.pre.subset hc;rcases a.mt c hc with⟨k1,k2⟩ | ⟨k1,k2,k3⟩
  ·rcases b.mt c hc1 with⟨_,q⟩ | ⟨q,_,_⟩;·exact .inl ⟨k1,q⟩
   ·exact (k2.notC q).elim
  ·rcases b.mt c hc1 with⟨q,_⟩ | ⟨_,q,q3⟩;·exact (q.notC k2).elim
   ·exact .inr ⟨k1,q,λo u z=>q3 o u (k3 o u z)⟩
theorem yX.stay(stp:yX mg H Y H' Y' s'){b:Addr}{o:HO}(h:H b=some o)(hn:∀vs,o≠.lst vs)(hn2:∀kvs,o≠.dT kvs:=by intro vs z;cases z)(hn3:∀kvs,kvs≠[]->o≠.dK kvs:=by intro kvs g z;cases z<;>exact g rfl):H' b=some o:=by
 by_cases hb:b∈Y
 ·rcases stp.mt b hb with⟨⟨vs,e⟩,_⟩ | ⟨⟨vs,e⟩ | ⟨p,vs,e⟩ | ⟨vs,g,e⟩ | ⟨p,vs,e⟩,_,q⟩
  ·rw[h]at e;exact absurd (_E e) (hn vs)
  ·rw[h]at e;exact absurd (_E e) (hn2 vs)
  ·rw[h]at e;cases e;exact q _ _ h
  ·rw[h]at e;exact absurd (_E e) (hn3 vs g)
  ·rw[h]at e;cases e;exact q _ _ h
 ·exact stp.keep b o h hb λ_=>hn
mutual
theorem Den.mono(stp:yX mg H Y H' Y' s'):∀{d:D}{v:V},Den mg H Y d v->Den mg H' Y' d v
 | .non,_,h=>by simpa[Den] using h | .bl _,_,h=>by simpa[Den] using h | .int _,_,h=>by simpa[Den] using h | .str _,_,h=>by simpa[Den] using h | .tup ds,v,h=>by
  simp only[Den]at h ⊢;obtain⟨a,vs,e,h1,h2⟩:=h;exact⟨a,vs,e,stp.stay h1 (by intro vs z;cases z),zm.mono stp h2⟩ | .lst ds,v,h=>by
  simp only[Den]at h ⊢;obtain⟨a,o,vs,e,h1,h2⟩:=h;exact⟨a,o,vs,e,stp.stay h1 (by intro vs z;cases z),zm.mono stp h2⟩ | .dct,v,h=>by
  simp only[Den]at h ⊢;obtain⟨a,e,h1⟩:=h;exact⟨a,e,stp.stay h1 (by intro vs z;cases z)⟩ | .loc l,v,h=>by
  simp only[Den]at h ⊢;obtain⟨a,e,h1,k⟩:=h;obtain⟨t,ht⟩:=stp.pre;refine⟨a,e,?_,?_⟩
  ·rw[<- ht,_r (_d.mp h1).1];exact h1
  ·rcases stp.mt a (_y h1) with⟨_,q⟩ | ⟨q,_,_⟩;·exact q
   ·exact (k.notC q).elim | .dlo l,v,h=>by
  simp only[Den]at h ⊢;obtain⟨a,e,h1,k⟩:=h;obtain⟨t,ht⟩:=stp.pre;refine⟨a,e,?_,?_⟩
  ·rw[<- ht,_r (_d.mp h1).1];exact h1
  ·rcases stp.mt a (_y h1) with⟨q,_⟩ | ⟨_,q,_⟩;·exact (q.notC k).elim
   ·exact q | .fn _,_,h=>by simpa[Den] using h | .exc x,v,h=>by
  simp only[Den]at h ⊢;obtain⟨a,C,e,h1,h2⟩:=h;exact⟨a,C,e,h1,stp.stay h2 (by intro vs z;cases z)⟩ | .scr ds,v,h=>by
  simp only[Den]at h ⊢;obtain⟨a,vs,e,h1,h2⟩:=h;exact⟨a,vs,e,h1.imp (λ⟨o,h1⟩=>⟨o,stp.stay h1 (by intro vs z;cases z)⟩) id,zm.mono stp h2⟩
theorem zm.mono(stp:yX mg H Y H' Y' s'):∀{ds:List D}{vs:List V},zm mg H Y ds vs->zm mg H' Y' ds vs
 | [],_,h=>by simpa[zm] using h | d::ds,vs,h=>by
  simp only[zm]at h ⊢;obtain⟨v,r,e,h1,h2⟩:=h;exact⟨v,r,e,Den.mono stp h1,zm.mono stp h2⟩
end
theorem zm.length:∀{ds:List D}{vs:List V},zm mg H Y ds vs->vs.length=ds.length
 | [],_,h=>by simp only[zm]at h;rw[h];rfl | d::ds,vs,h=>by
  simp only[zm]at h;obtain⟨v,r,rfl,_,h2⟩:=h;simp[zm.length h2]
theorem zm.get:∀{ds:List D}{vs:List V}{i:Nat}{d:D},zm mg H Y ds vs->ds[i]? = some d->∃v,vs[i]? = some v/\Den mg H Y d v
 | [],_,_,_,_,e=>by simp at e | d::ds,vs,0,d',h,e=>by
  simp only[zm]at h;obtain⟨v,r,rfl,h1,_⟩:=h;simp at e;subst e;exact⟨v,by simp,h1⟩ | d::ds,vs,i+1,d',h,e=>by
  simp only[zm]at h;obtain⟨v,r,rfl,_,h2⟩:=h;obtain⟨u,h3,h4⟩:=zm.get (i:=i) h2 (by simpa using e);exact⟨u,by simpa using h3,h4⟩
theorem zm.append:∀{ds es:List D}{vs us:List V},zm mg H Y ds vs->zm mg H Y es us->zm mg H Y (ds++es) (vs++us)
 | [],_,_,_,h,h'=>by simp only[zm]at h;subst h;simpa using h' | d::ds,_,_,_,h,h'=>by
  simp only[zm]at h;obtain⟨v,r,rfl,h1,h2⟩:=h;simp only[_bo,zm];exact⟨v,_,rfl,h1,zm.append h2 h'⟩
theorem zm.nil:zm mg H Y [] []:=by simp[zm]
theorem zm.cons {d:D} {ds:List D} {v:V} {vs:List V} (h:Den mg H Y d v) (h':zm mg H Y ds vs):zm mg H Y (d::ds) (v::vs):=by
 simp only[zm];exact⟨v,vs,rfl,h,h'⟩
theorem zm.one{d:D}{v:V}(h:Den mg H Y d v):zm mg H Y [d] [v]:=.cons h .nil
theorem zm.take:∀{ds:List D}{vs:List V}(n:Nat),zm mg H Y ds vs->zm mg H Y (ds.take n) (vs.take n)
 | ds,vs,0,h=>by simp[zm] | [],vs,n+1,h=>by simp only[zm]at h;subst h;simp[zm] | d::ds,vs,n+1,h=>by
  simp only[zm]at h;obtain⟨v,r,rfl,h1,h2⟩:=h;simp only[_cO];exact .cons h1 (zm.take n h2)
theorem zm.drop:∀{ds:List D}{vs:List V}(n:Nat),zm mg H Y ds vs->zm mg H Y (ds.drop n) (vs.drop n)
 | ds,vs,0,h=>by simpa using h | [],vs,n+1,h=>by simp only[zm]at h;subst h;simp[zm] | d::ds,vs,n+1,h=>by
  simp only[zm]at h;obtain⟨v,r,rfl,h1,h2⟩:=h;simpa using zm.drop n h2
theorem zm.set:∀{ds:List D}{vs:List V}{d:D}{v:V}(n:Nat),zm mg H Y ds vs->Den mg H Y d v->zm mg H Y (ds.set n d) (vs.set n v)
 | [],vs,_,_,n,h,_=>by simp only[zm]at h;subst h;simp[zm] | d::ds,vs,_,_,0,h,h'=>by
  simp only[zm]at h;obtain⟨v,r,rfl,h1,h2⟩:=h;simpa using zm.cons h' h2 | d::ds,vs,_,_,n+1,h,h'=>by
  simp only[zm]at h;obtain⟨v,r,rfl,h1,h2⟩:=h;simpa using zm.cons h1 (zm.set n h2 h')
mutual
theorem Den.flatten(k:∀b o,H b=some o->(∀vs,o≠.lst vs)->(∀kvs,o≠.dT kvs)->(∀kvs,kvs≠[]->o≠.dK kvs)->H' b=some o):∀{d:D}{v:V},d.flat=true->Den mg H Y d v->Den mg H' Y' d v
 | .non,_,_,h=>by simpa[Den] using h | .bl _,_,_,h=>by simpa[Den] using h | .int _,_,_,h=>by simpa[Den] using h | .str _,_,_,h=>by simpa[Den] using h | .tup ds,v,f,h=>by
  simp only[Den]at h ⊢;obtain⟨a,vs,e,h1,h2⟩:=h;exact⟨a,vs,e,k a _ h1 (by intro vs z;cases z) (by intro vs z;cases z) (by intro vs g z;cases z<;>exact g rfl),zm.flatten k (by simpa[D.flat] using f) h2⟩ | .lst ds,v,f,h=>by
  simp only[Den]at h ⊢;obtain⟨a,o,vs,e,h1,h2⟩:=h;exact⟨a,o,vs,e,k a _ h1 (by intro vs z;cases z) (by intro vs z;cases z) (by intro vs g z;cases z<;>exact g rfl),zm.flatten k (by simpa[D.flat] using f) h2⟩ | .dct,v,_,h=>by
  simp only[Den]at h ⊢;obtain⟨a,e,h1⟩:=h;exact⟨a,e,k a _ h1 (by intro vs z;cases z) (by intro vs z;cases z) (by intro vs g z;cases z<;>exact g rfl)⟩ | .loc l,v,f,h=>by simp[D.flat]at f | .dlo l,v,f,h=>by simp[D.flat]at f | .fn _,_,_,h=>by simpa[Den] using h | .exc x,v,_,h=>by
  simp only[Den]at h ⊢;obtain⟨a,C,e,h1,h2⟩:=h;exact⟨a,C,e,h1,k a _ h2 (by intro vs z;cases z) (by intro vs z;cases z) (by intro vs g z;cases z<;>exact g rfl)⟩ | .scr ds,v,f,h=>by
  simp only[Den]at h ⊢;obtain⟨a,vs,e,h1,h2⟩:=h;exact⟨a,vs,e,h1.imp (λ⟨o,h1⟩=>⟨o,k a _ h1 (by intro vs z;cases z) (by intro vs z;cases z) (by intro vs g z;cases z<;>exact g rfl)⟩) id,zm.flatten k (by simpa[D.flat] using f) h2⟩
theorem zm.flatten(k:∀b o,H b=some o->(∀vs,o≠.lst vs)->(∀kvs,o≠.dT kvs)->(∀kvs,kvs≠[]->o≠.dK kvs)->H' b=some o):∀{ds:List D}{vs:List V},D.flat.flats ds=true->zm mg H Y ds vs->zm mg H' Y' ds vs
 | [],_,_,h=>by simpa[zm] using h | d::ds,vs,f,h=>by
  simp only[zm]at h ⊢;simp only[D.flat.flats,_T]at f;obtain⟨v,r,e,h1,h2⟩:=h;exact⟨v,r,e,Den.flatten k f.1 h1,zm.flatten k f.2 h2⟩
end
end
def okR{α β:Type}(mg:Gm)(E:XK)(H:Hp)(Y:List Addr)(Dn:Hp->List Addr->α->β->Prop)(r:R α)(Q:β->Hp->Prop):Prop:=match r with
 | .ok a s'=>∀b H' Y',yX mg H Y H' Y' s'->Dn H' Y' a b->Q b H' | .ex c s'=>∀H' Y' C,yX mg H Y H' Y' s'->mg.m c=some (.ref C)->E (.ref C) none H' | .no=>False
section
variable {α β α2 β2:Type}{mg:Gm}{E:XK}{H H' H1 H2:Hp}{Y Y' Y1 Y2:List Addr}{s s' s1 s2:Sto}{Dn:Hp->List Addr->α->β->Prop}{Dn2:Hp->List Addr->α2->β2->Prop}
theorem okR.rebase{r:R α}{Q:β->Hp->Prop}(h:okR mg E H Y Dn r Q)(stp:yX mg H Y H1 Y1 s1):okR mg E H1 Y1 Dn r Q:=by cases r with
 | ok a s'=>exact λb H' Y' stp'=>h b H' Y' (stp.trans stp') | ex c s'=>exact λH' Y' C stp'=>h H' Y' C (stp.trans stp') | no=>exact h
theorem okR.bind{r:R α}{k:α->Sto->R α2}{Q:β2->Hp->Prop}(h:okR mg E H Y Dn2 (r.bind k) Q): okR mg E H Y Dn r (λb H1=>∃Y1 s1 a,yX mg H Y H1 Y1 s1/\Dn H1 Y1 a b/\okR mg E H1 Y1 Dn2 (k a s1) Q):=by cases r with
 | ok a s'=>exact λb H' Y' stp dn=>⟨Y',s',a,stp,dn,okR.rebase h stp⟩ | ex c s'=>exact h | no=>exact h
theorem okR.imp{r:R α}{Q Q':β->Hp->Prop}(h:okR mg E H Y Dn r Q)(i:∀b H',Q b H'->Q' b H'):okR mg E H Y Dn r Q':=by cases r with
 | ok a s'=>exact λb H' Y' stp dn=>i b H' (h b H' Y' stp dn) | ex c s'=>exact h | no=>exact h
theorem okR.here{a:α}{Q:β->Hp->Prop}{b:β}(h:okR mg E H Y Dn (.ok a s) Q)(r:Rep mg H Y s)(d:Dn H Y a b):Q b H:=h b H Y (.refl r) d
end
structure wG(mg:Gm)(H:Hp)(Y:List Addr)(ρ:Ev)(O:L2.St):Prop where
 len:ρ.length=O.length
 at_:∀(i:Nat)(d:D),ρ[i]? = some (some d)->∃v,O[i]? = some (some v)/\Den mg H Y d v
theorem wG.mono{mg:Gm}{H H':Hp}{Y Y':List Addr}{s':Sto}{ρ:Ev}{O:L2.St}(e:wG mg H Y ρ O)(stp:yX mg H Y H' Y' s'):wG mg H' Y' ρ O:= ⟨e.len,λi d h=>let ⟨v,h1,h2⟩:=e.at_ i d h;⟨v,h1,h2.mono stp⟩⟩
theorem wG.set{mg:Gm}{H:Hp}{Y:List Addr}{ρ:Ev}{O:L2.St}{d:D}{v:V}(e:wG mg H Y ρ O)(h:Den mg H Y d v)(i:Nat):wG mg H Y (ρ.set i (some d)) (O.set i (some v)):=by
 refine⟨by simp[e.len],λj d' hj=>?_⟩;by_cases hij:i=j
 ·subst hij;have hi:i<ρ.length:=by
   have:=(_d.mp hj).1;simpa using this
  rw[_Z hi]at hj;cases hj;exact⟨v,by rw[_Z (by rw[<- e.len];exact hi)],h⟩
 ·rw[_L hij]at hj ⊢;exact e.at_ j d' hj
abbrev FE:=Ev->Sto->R D
abbrev FT:=Ev->Sto->R Bool
abbrev FA:=Ev->Sto->R (List D)
inductive Fl where | nx (ρ:Ev) | rt (d:D) | bk (ρ:Ev) | ct (ρ:Ev)
inductive FlV where | nx (O:L2.St) | rt (v:V) | bk (O:L2.St) | ct (O:L2.St)
abbrev FS:=Ev->Sto->R Fl
def FlD(mg:Gm)(H:Hp)(Y:List Addr):Fl->FlV->Prop
 | .nx ρ,.nx O=>wG mg H Y ρ O | .rt d,.rt v=>Den mg H Y d v | .bk ρ,.bk O=>wG mg H Y ρ O | .ct ρ,.ct O=>wG mg H Y ρ O | _,_=>False
def z35(D:zfn):FlV->Hp->Prop
 | .nx O,H=>D.nx O H | .rt v,H=>D.rt v H | .bk O,H=>D.bk O H | .ct O,H=>D.ct O H
def bD(_:Hp)(_:List Addr)(a b:Bool):Prop:=a=b
def tE(mg:Gm)(E:XK)(f:FE):TE:=λO H Q=>∃Y ρ s,Rep mg H Y s/\wG mg H Y ρ O/\okR mg E H Y (Den mg) (f ρ s) Q
def tT(mg:Gm)(E:XK)(f:FT):TT:=λO H Q=>∃Y ρ s,Rep mg H Y s/\wG mg H Y ρ O/\okR mg E H Y bD (f ρ s) Q
def tA(mg:Gm)(E:XK)(f:FA):TA:=λO H Q=>∃Y ρ s,Rep mg H Y s/\wG mg H Y ρ O/\okR mg E H Y (zm mg) (f ρ s) Q
def tS(mg:Gm)(E:XK)(f:FS):TS:=λD O H=>∃Y ρ s,Rep mg H Y s/\wG mg H Y ρ O/\okR mg E H Y (FlD mg) (f ρ s) (z35 D)
def RE(X:Cx)(E:XK)(e:Expr)(f:FE):Prop:=PE X e (tE (gm X) E f)
def RT(X:Cx)(E:XK)(e:Expr)(f:FT):Prop:=PT X e (tT (gm X) E f)
def RA(X:Cx)(E:XK)(es:List Expr)(f:FA):Prop:=PA X es (tA (gm X) E f)
def RS(X:Cx)(E:XK)(st:Stmt)(f:FS):Prop:=PS X st (tS (gm X) E f)
def RSs(X:Cx)(E:XK)(st:List Stmt)(f:FS):Prop:=PSs X st (tS (gm X) E f)
section
variable {X:Cx}{E:XK}{e a b c:Expr}{es:List Expr}{pos:Pos}
theorem zQ{t t':TE}(h:PE X e t)(i:∀O H Q,t' O H Q->t O H Q):PE X e t':=λpins s O H Q I q=>h pins s O H Q I (i O H Q q)
theorem z7n{t t':TT}(h:PT X e t)(i:∀O H Q,t' O H Q->t O H Q):PT X e t':=λpins s O H Q I q=>h pins s O H Q I (i O H Q q)
theorem zdl{t t':TA}(h:PA X es t)(i:∀O H Q,t' O H Q->t O H Q):PA X es t':=λpos pins s O H Q I q=>h pos pins s O H Q I (i O H Q q)
theorem wq{st:Stmt}{t t':TS}(h:PS X st t)(i:∀D O H,t' D O H->t D O H):PS X st t':=λpins s O H D I q=>h pins s O H D I (i D O H q)
theorem zaj{st:List Stmt}{t t':TS}(h:PSs X st t)(i:∀D O H,t' D O H->t D O H):PSs X st t':=λpins s O H D I q=>h pins s O H D I (i D O H q)
theorem zM{α β:Type}{Dn:Hp->List Addr->α->β->Prop}{mg:Gm}{f:FE}{k:Ev->D->Sto->R α}{O:L2.St}{H:Hp}{Q:β->Hp->Prop}{Y:List Addr}{ρ:Ev}{s:Sto}(r:Rep mg H Y s)(en:wG mg H Y ρ O) (h:okR mg E H Y Dn ((f ρ s).bind (k ρ)) Q)(K:V->Hp->Prop) (hK:∀v H1 Y1 s1 d,Rep mg H1 Y1 s1->wG mg H1 Y1 ρ O->Den mg H1 Y1 d v->yX mg H Y H1 Y1 s1->okR mg E H1 Y1 Dn (k ρ d s1) Q->K v H1):tE mg E f O H K:= ⟨Y,ρ,s,r,en,(okR.bind (Dn:=Den mg) h).imp λv H1 ⟨Y1,s1,d,stp,dn,q⟩=>hK v H1 Y1 s1 d stp.rep (en.mono stp) dn stp q⟩
theorem z0C{α β:Type}{Dn:Hp->List Addr->α->β->Prop}{mg:Gm}{f:FT}{k:Ev->Bool->Sto->R α}{O:L2.St}{H:Hp}{Q:β->Hp->Prop}{Y:List Addr}{ρ:Ev}{s:Sto}(r:Rep mg H Y s)(en:wG mg H Y ρ O) (h:okR mg E H Y Dn ((f ρ s).bind (k ρ)) Q)(K:Bool->Hp->Prop) (hK:∀v H1 Y1 s1,Rep mg H1 Y1 s1->wG mg H1 Y1 ρ O->yX mg H Y H1 Y1 s1->okR mg E H1 Y1 Dn (k ρ v s1) Q->K v H1):tT mg E f O H K:= ⟨Y,ρ,s,r,en,(okR.bind (Dn:=bD) h).imp λv H1 ⟨Y1,s1,d,stp,dn,q⟩=>hK v H1 Y1 s1 stp.rep (en.mono stp) stp (by cases (show d=v from dn);exact q)⟩
theorem vx{α β:Type}{Dn:Hp->List Addr->α->β->Prop}{mg:Gm}{f:FA}{k:Ev->List D->Sto->R α}{O:L2.St}{H:Hp}{Q:β->Hp->Prop}{Y:List Addr}{ρ:Ev}{s:Sto}(r:Rep mg H Y s)(en:wG mg H Y ρ O) (h:okR mg E H Y Dn ((f ρ s).bind (k ρ)) Q)(K:List V->Hp->Prop) (hK:∀v H1 Y1 s1 d,Rep mg H1 Y1 s1->wG mg H1 Y1 ρ O->zm mg H1 Y1 d v->yX mg H Y H1 Y1 s1->okR mg E H1 Y1 Dn (k ρ d s1) Q->K v H1):tA mg E f O H K:= ⟨Y,ρ,s,r,en,(okR.bind (Dn:=zm mg) h).imp λv H1 ⟨Y1,s1,d,stp,dn,q⟩=>hK v H1 Y1 s1 d stp.rep (en.mono stp) dn stp q⟩
def zc(i:Nat):FE:=fun ρ s=>match ρ[i]? with | some (some d)=>.ok d s | _=>.no
theorem zb(i:Nat){x:Str}(hN:X.N[i]? = some x:=by rfl)(hv:Vis X.env.scope x:=by first | exact Or.inl rfl | exact Or.inr (Or.inl rfl) | exact Or.inr (Or.inr rfl))(hd:(x==("__debug__":Str))=false:=by decide) (hcd:(x==("__classdict__":Str))=false:=by decide):RE X E (.Name x pos) (zc i):= zQ (z9G hN hv hd hcd) λO H Q ⟨Y,ρ,s,r,en,h⟩=>by
  unfold zc at h;split at h
  ·rename_i d hd;obtain⟨v,h1,h2⟩:=en.at_ i d hd;exact⟨v,h1,h.here r h2⟩
  ·exact h.elim
def eC(d:D):FE:=λ_ s=>.ok d s
theorem zr{i:Int}{j:Nat}:RE X E (.Constant (.int i) j pos) (eC (.int i)):=zQ zdY λO H Q ⟨Y,ρ,s,r,en,h⟩=>okR.here (b:=V.int i) h r (by simp[Den])
theorem z8v{i:Bool}{j:Nat}:RE X E (.Constant (.bool i) j pos) (eC (.bl i)):=zQ zjW λO H Q ⟨Y,ρ,s,r,en,h⟩=>okR.here (b:=V.bl i) h r (by simp[Den])
theorem zaS{i:Str}{j:Nat}:RE X E (.Constant (.str i) j pos) (eC (.str i)):=zQ zhz λO H Q ⟨Y,ρ,s,r,en,h⟩=>okR.here (b:=V.str i) h r (by simp[Den])
theorem zhT{x:Str}{i:Int}{t:Tok}(hg:Gl X x)(hm:X.mg x=some (.int i t))(hd:(x==("__debug__":Str))=false:=by decide):RE X E (.Name x pos) (eC (.int i)):= zQ (z3a hg hm (show yg (.int i) (.int i t) from⟨t,rfl⟩) hd) λO H Q ⟨Y,ρ,s,r,en,h⟩=>okR.here (b:=V.int i) h r (by simp[Den])
def OpF(X:Cx)(E:XK)(r:R2)(op:D->D->Sto->R D):Prop:= ∀H Y s d1 d2 v1 v2 (Q:VK),Rep (gm X) H Y s->Den (gm X) H Y d1 v1->Den (gm X) H Y d2 v2->okR (gm X) E H Y (Den (gm X)) (op d1 d2 s) Q->r v1 v2 H Q
def eOp(op:D->D->Sto->R D)(fa fb:FE):FE:=fun ρ s=>(fa ρ s).bind λx s1=>(fb ρ s1).bind λy s2=>op x y s2
theorem z7r{r:R2}{op:D->D->Sto->R D}{fa fb:FE}(ho:OpF X E r op){O:L2.St}{H:Hp}{Q:VK}(h:tE (gm X) E (eOp op fa fb) O H Q):tOp r (tE (gm X) E fa) (tE (gm X) E fb) O H Q:=by
 obtain⟨Y,ρ,s,r',en,h⟩:=h;refine zM (k:=fun ρ x s1=>(fb ρ s1).bind λy s2=>op x y s2) r' en h _ λv H1 Y1 s1 d r1 en1 dn stp h1=>?_;refine zM (k:=fun ρ y s2=>op d y s2) r1 en1 h1 _ λv2 H2 Y2 s2 d2 r2 en2 dn2 St2 h2=>?_;exact ho H2 Y2 s2 d d2 v v2 Q r2 (dn.mono St2) dn2 h2
theorem zl2{op:Operator}{r:R2}{fo:D->D->Sto->R D}{fa fb:FE}(ho:OpR X (binaryOp op) r/\OpF X E r fo)(ha:RE X E a fa)(hb:RE X E b fb):RE X E (.BinOp a op b pos) (eOp fo fa fb):= zQ (ziR ho.1 ha hb) λO H Q h=>z7r ho.2 h
theorem ziS{op:CmpOp}{r:R2}{fo:D->D->Sto->R D}{fa fb:FE}(ho:OpR X (compareOp op) r/\OpF X E r fo)(ha:RE X E a fa)(hb:RE X E b fb)(hm:behindInMarks op b=false):RE X E (.Compare a [op] [b] pos) (eOp fo fa fb):= zQ (zaL ho.1 ha hb hm) λO H Q h=>z7r ho.2 h
end
end Dd
namespace L2
theorem Inv.freeze {X:Cx} {pins:List (Addr×Obj)} {O:L2.St} {H:Hp} {s:Shared} {a:Addr} {u:HO} {o:Obj} (I:Inv X pins O H s) (h:H a=some u) (e:s.heap.get? a=some o) (hu:∀xs,u≠.tup xs) (hf:∀o v,u≠.frz o v) (ht:∀ps,u≠.tbl ps) (ho:∀y,u≠.own y): Inv X pins O (upd H a (.frz o u)) s:=by
 have ne:∀{b:Addr} {v:HO},H b=some v->v≠u->b≠a:=λ{b v} hb hv z=>by subst z;rw[h]at hb;exact hv (_E hb).symm
 have stay:∀b v,yq X.prog X.w H s.heap b v->yq X.prog X.w (upd H a (.frz o u)) s.heap b v:=λb v q=> q.stay (λ_ _ _ q=>q) (λc q=>by rw[zn (ne q (λz=>ho b z.symm))];exact q) λc xs q=>by rw[zn (ne q (λz=>hu xs z.symm))];exact q
 have hok:HOk X.prog X.w (upd H a (.frz o u)) s.heap:=λb v q=>by
  by_cases hb:b=a
  ·subst hb;rw[zC]at q;cases q;exact⟨e,stay b u (I.hok b u h)⟩
  ·rw[zn hb]at q;exact stay b v (I.hok b v q)
 exact I.step (h':=s.heap) (g':=s.gens) (d':=s.drawn) (t':=s.toks) (ch:=[]) (λb hb=>absurd hb (by simp)) (λb o _ _ _ e _=>e) (λb o _ _ _ e _=>⟨o.slots,e⟩) (λb v _ _ n=>by rw[zn (λz=>by subst z;rw[h]at n;cases n)];exact n) (λb o _ e=>⟨o,e⟩) (λb xs q=>by rw[zn (ne q (λz=>hu xs z.symm))];exact q) (λb o' v q=>by rw[zn (ne q (λz=>hf o' v z.symm))];exact q) (λb ps q=>⟨#[],by rw[zn (ne q (λz=>ht ps z.symm)),q];simp⟩) (λ_ q=>q) hok I.bare
def z8t(Q:VK):VK:=λv H=>∃a xs,v=.ref a/\H a=some (.lst xs)/\∀o,Q v (upd H a (.frz o (.lst xs)))
theorem EP.freeze{X:Cx}{pins:List (Addr×Obj)}{O:L2.St}{Q:VK}{u:Value}{s:Shared}(h:EP X pins O (z8t Q) u s):EP X pins O Q u s:=by
 obtain⟨v,H',I,r,a,xs,rfl,ha,q⟩:=h;obtain⟨its,n,rv,e,_⟩:=I.lst ha;exact⟨_,_,I.freeze ha e (by intro _ z;cases z) (by intro _ _ z;cases z) (by intro _ z;cases z) (by intro _ z;cases z),r,q _⟩
theorem OpR.freeze{X:Cx}{f:Value->Value->Sem Value}{r:R2}(h:OpR X f r):OpR X f (λx y H Q=>r x y H (z8t Q)):=λpins s O H x y v u Q I rx ry q=>thn (h pins s O H x y v u _ I rx ry q) λ_ _ z=>z.freeze
theorem yN.freeze{X:Cx}{f:Value}{r:List V->Hp->VK->Prop}(h:yN X f r):yN X f (λxs H Q=>r xs H (z8t Q)):=λpins s O H xs us Q I rs q=>thn (h pins s O H xs us _ I rs q) λ_ _ z=>z.freeze
theorem PE.freeze{X:Cx}{e:Expr}{t:TE}(h:PE X e t):PE X e (λO H Q=>t O H (z8t Q)):=λpins s O H Q I q=>thn (h pins s O H _ I q) λ_ _ z=>z.freeze
theorem SlR.freeze{X:Cx}{r:V->Option Int->Option Int->Hp->VK->Prop}(h:SlR X r):SlR X (λx lo hi H Q=>r x lo hi H (z8t Q)):=λpins s O H x v vl vu lo hi sl Q I rx hs pl pu q=>by
 obtain⟨T,id,h1,h2,h3⟩:=h pins s O H x v vl vu lo hi sl _ I rx hs pl pu q;exact⟨T,id,h1,h2,thn h3 λ_ _ z=>z.freeze⟩
section
variable {X:Cx}
theorem zea:OpR X (binaryOp .Add) (λx y H Q=>∃l b xs zs,x=.ref l/\y=.ref b/\Rd H l (.lst xs)/\Rd H b (.lst zs)/\xs.length+zs.length<=sizeLine/\∀p,H p=none->Q (.ref p) (upd H p (.lst (xs++zs)))):=by
 intro pins s O H x y v u Q I rx ry h;obtain⟨l,b,xs,zs,rfl,rfl,hH,hB,hz,q⟩:=h;cases rx;cases ry;obtain⟨z,its,n,r,e⟩:=hH.ok I.hok;obtain⟨z2,its2,n2,r2,e2⟩:=hB.ok I.hok;have hl:=r.length;have hl2:=r2.length;refine PySem.P.add_list e e2 ?_ (by rw[_q,_q];omega);have ea:its.toArray++its2.toArray=(its++its2).toArray:=by simp
 rw[ea];exact⟨.ref _,_,I.lnew (t':=s.toks) (r.append r2) (by rw[_al];omega),rfl,q _ I.fresh⟩
end
section
variable {X:Cx}
theorem zcs:OpR X (binaryOp .Add) (λx y H Q=>∃a b ys,x=.ref a/\y=.ref b/\SqT X.K H a []/\SqT X.K H b ys/\Q (.ref b) H):=by
 intro pins s O H x y v u Q I rx ry h;obtain⟨a,b,ys,rfl,rfl,ha,hb,q⟩:=h;cases rx;cases ry;obtain⟨its,r1,p1,_⟩:=I.tuple ha;obtain⟨its2,r2,p2,_⟩:=I.tuple hb;cases r1;obtain⟨⟨cls,dd,data,sl⟩,ho,hc,n,hd⟩:=id p1;obtain⟨⟨cls2,dd2,data2,sl2⟩,ho2,hc2,n2,hd2⟩:=id p2;simp only at hc hd hc2 hd2;subst hc hd hc2 hd2;exact concat_meets ⟨_,ho,rfl⟩ ⟨_,ho2,rfl⟩ _dw seq_tuple_add _b6 _b1 (_bL _ _) (tuple_addW0 a b _ _ n n2 dd dd2 sl sl2 (by simp)) ⟨ho,ho2,⟨.ref b,H,I,rfl,q⟩⟩
theorem zfV:SlR X (λx lo hi H Q=>∃a xs,x=.ref a/\SqT X.K H a xs/\(HT.sIx xs.length 0 lo=0/\HT.sIx xs.length xs.length hi=xs.length)/\Q (.ref a) H):=by
 intro pins s O H x v vl vu lo hi sl Q I rx hs pl pu h;obtain⟨a,xs,rfl,hx,hw,q⟩:=h;cases rx;obtain⟨its,r,ht,hz⟩:=I.tuple hx;have hlen:its.toArray.size=xs.length:=by rw[_q];exact r.length.symm
 refine⟨"tuple",_,_ac.lookup,ht.typeIs,?_⟩;obtain⟨os,hos,hcs,hds⟩:=id hs;have hTs:s.TypeIs (.ref sl) "slice":=⟨os,hos,hcs⟩;obtain⟨oa,hoa,hca,na,hda⟩:=id ht;unfold getItem;try with_reducible refine _X ?_
 first | refine _a (_b ?_) | skip
 refine _a (wpAny_sequenceKey ht.typeIs (by decide) ?_);refine _a (_U (name:=Str.ofString "__getitem__") ht.typeIs _ac (_I _ac ht.typeIs entry_tuple_getitem ?_ (args_tuple_getitem _ _)));show wpAny _ _ (Builtin.Tuple.tupleItemsOf (.ref a) >>= _) _ _ s;refine _a (tupleItemsOf_ ht ?_);refine _a (_b7 hTs ?_);rw[_f (by decide)];refine _a (HT.vQ hs pl pu ?_);rw[hlen,hw.1,hw.2];show wpAny _ _ (if (((0:Nat):Int)==0&&(1:Int)==1&&(xs.length-0)==xs.length)=true then _ else _) _ _ s;rw[_f (by simp)];have hTa:s.TypeIs (.ref a) "tuple":=ht.typeIs;have fin:EP X pins O Q (.ref a) s:=⟨.ref a,H,I,rfl,q⟩;unfold Builtin.Tuple.tupleIsExact;refine _a (_a (_b7 hTa (_b ?_)));rw[_f (by decide)];exact _a (_cl (_b ⟨_,rfl,_b fin⟩))
end
end L2
namespace Dd
open L2
section
variable {mg:Gm}{H H' H1 H2:Hp}{Y Y' Y1 Y2:List Addr}{s s' s1 s2:Sto}
structure Kp(H H':Hp):Prop where
 k:∀b o,H b=some o->(∀vs,o≠.lst vs)->(∀kvs,o≠.dT kvs)->(∀kvs,kvs≠[]->o≠.dK kvs)->H' b=some o
 l:∀a,IsL H a->IsL H' a
 c:∀a,IsC H a->IsC H' a
mutual
theorem Den.gen(k:Kp H H')(hi:∀(l:Nat) a,Y[l]? = some a->Y'[l]? = some a):∀{d:D}{v:V},Den mg H Y d v->Den mg H' Y' d v
 | .non,_,h=>by simpa[Den] using h | .bl _,_,h=>by simpa[Den] using h | .int _,_,h=>by simpa[Den] using h | .str _,_,h=>by simpa[Den] using h | .tup ds,v,h=>by
  simp only[Den]at h ⊢;obtain⟨a,vs,e,h1,h2⟩:=h;exact⟨a,vs,e,k.k a _ h1 (by intro vs z;cases z) (by intro vs z;cases z) (by intro vs g z;cases z<;>exact g rfl),zm.gen k hi h2⟩ | .lst ds,v,h=>by
  simp only[Den]at h ⊢;obtain⟨a,o,vs,e,h1,h2⟩:=h;exact⟨a,o,vs,e,k.k a _ h1 (by intro vs z;cases z) (by intro vs z;cases z) (by intro vs g z;cases z<;>exact g rfl),zm.gen k hi h2⟩ | .dct,v,h=>by
  simp only[Den]at h ⊢;obtain⟨a,e,h1⟩:=h;exact⟨a,e,k.k a _ h1 (by intro vs z;cases z) (by intro vs z;cases z) (by intro vs g z;cases z<;>exact g rfl)⟩ | .loc l,v,h=>by
  simp only[Den]at h ⊢;obtain⟨a,e,h1,q⟩:=h;exact⟨a,e,hi l a h1,k.l a q⟩ | .dlo l,v,h=>by
  simp only[Den]at h ⊢;obtain⟨a,e,h1,q⟩:=h;exact⟨a,e,hi l a h1,k.c a q⟩ | .fn _,_,h=>by simpa[Den] using h | .exc x,v,h=>by
  simp only[Den]at h ⊢;obtain⟨a,C,e,h1,h2⟩:=h;exact⟨a,C,e,h1,k.k a _ h2 (by intro vs z;cases z) (by intro vs z;cases z) (by intro vs g z;cases z<;>exact g rfl)⟩ | .scr ds,v,h=>by
  simp only[Den]at h ⊢;obtain⟨a,vs,e,h1,h2⟩:=h;exact⟨a,vs,e,h1.imp (λ⟨o,h1⟩=>⟨o,k.k a _ h1 (by intro vs z;cases z) (by intro vs z;cases z) (by intro vs g z;cases z<;>exact g rfl)⟩) id,zm.gen k hi h2⟩
theorem zm.gen(k:Kp H H')(hi:∀(l:Nat) a,Y[l]? = some a->Y'[l]? = some a):∀{ds:List D}{vs:List V},zm mg H Y ds vs->zm mg H' Y' ds vs
 | [],_,h=>by simpa[zm] using h | d::ds,vs,h=>by
  simp only[zm]at h ⊢;obtain⟨v,r,e,h1,h2⟩:=h;exact⟨v,r,e,Den.gen k hi h1,zm.gen k hi h2⟩
end
theorem xh{p:Addr}{o:HO}(hp:H p=none):∀b u,H b=some u->upd H p o b=some u:=λb u h=>by rw[zn (ym h hp)];exact h
theorem Kp.new{p:Addr}{o:HO}(hp:H p=none):Kp H (upd H p o):=⟨λb u h _ _ _=>xh hp b u h,λa ⟨vs,e⟩=>⟨vs,xh hp a _ e⟩,λa h=>h.imp (λ⟨vs,e⟩=>⟨vs,xh hp a _ e⟩) λh=>h.imp (λ⟨o,vs,e⟩=>⟨o,vs,xh hp a _ e⟩) λh=>h.imp (λ⟨vs,g,e⟩=>⟨vs,g,xh hp a _ e⟩) λ⟨o,vs,e⟩=>⟨o,vs,xh hp a _ e⟩⟩
theorem Kp.putL{a:Addr}{vs:List V}(h:IsL H a):Kp H (upd H a (.lst vs)):=by
 obtain⟨ws,e⟩:=h;have ne:∀{b u},H b=some u->(∀vs,u≠.lst vs)->b≠a:=λ{b u} q n z=>by subst z;rw[e]at q;exact n ws (_E q).symm
 refine⟨λb o q n1 n2 _=>by rw[zn (ne q n1)];exact q,λb ⟨us,q⟩=>?_,λb h=>?_⟩
 ·by_cases z:b=a;·subst z;exact⟨vs,zC⟩
  ·exact⟨us,by rw[zn z];exact q⟩
 ·rcases h with⟨us,q⟩ | ⟨o,us,q⟩ | ⟨us,g,q⟩ | ⟨o,us,q⟩;·exact .inl ⟨us,by rw[zn (ne q (by intro _ z;cases z))];exact q⟩
  ·exact .inr (.inl ⟨o,us,by rw[zn (ne q (by intro _ z;cases z))];exact q⟩)
  ·exact .inr (.inr (.inl ⟨us,g,by rw[zn (ne q (by intro _ z;cases z))];exact q⟩))
  ·exact .inr (.inr (.inr ⟨o,us,by rw[zn (ne q (by intro _ z;cases z))];exact q⟩))
theorem Kp.putC{a:Addr}{u:HO}(h:∃ws,H a=some (.dT ws))(hu:(∃kvs,u=.dT kvs)\/∃o kvs,u=.frz o (.dT kvs)):Kp H (upd H a u):=by
 obtain⟨ws,e⟩:=h;have ne:∀{b u},H b=some u->(∀vs,u≠.dT vs)->b≠a:=λ{b u} q n z=>by subst z;rw[e]at q;exact n ws (_E q).symm
 refine⟨λb o q n1 n2 _=>by rw[zn (ne q n2)];exact q,λb ⟨us,q⟩=>⟨us,by rw[zn (ne q (by intro _ z;cases z))];exact q⟩,λb h=>?_⟩;by_cases z:b=a
 ·subst z;rcases hu with⟨k,rfl⟩ | ⟨o,k,rfl⟩;·exact .inl ⟨k,zC⟩
  ·exact .inr (.inl ⟨o,k,zC⟩)
 ·rcases h with⟨us,q⟩ | ⟨o,us,q⟩ | ⟨us,g,q⟩ | ⟨o,us,q⟩;·exact .inl ⟨us,by rw[zn z];exact q⟩
  ·exact .inr (.inl ⟨o,us,by rw[zn z];exact q⟩)
  ·exact .inr (.inr (.inl ⟨us,g,by rw[zn z];exact q⟩))
  ·exact .inr (.inr (.inr ⟨o,us,by rw[zn z];exact q⟩))
theorem z3E.imp{mg:Gm}{H H':Hp}{Y Y':List Addr}:∀{xs:List D}{kvs:List (Key×V)},(∀ys vs k,(D.tup [.int k,.lst ys]∈xs\/D.tup [.int k,.lst ys,.non]∈xs)->zm mg H Y ys vs->zm mg H' Y' ys vs)->(∀k b vs,(k,V.ref b)∈kvs->H b=some (.lst vs)->H' b=some (.lst vs))->(∀b o vs,H b=some (.frz o (.lst vs))->H' b=some (.frz o (.lst vs)))->z3E mg H Y xs kvs->z3E mg H' Y' xs kvs
 | [],_,_,_,_,h=>h | d::ds,kvs,g,w,z,h=>by
  obtain⟨k,ys,b,vs,r,rfl,h1,h2,h3⟩:=h;refine⟨k,ys,b,vs,r,rfl,g ys vs k (h2.imp (λq=>by rw[q.1];simp) λq=>by rw[q.1];simp) h1,h2.imp (λq=>⟨q.1,w (Sum.inl k) b vs (by simp) q.2⟩) (λq=>⟨q.1,q.2.imp λo e=>z b o vs e⟩),z3E.imp (λys vs k hm=>g ys vs k (hm.imp (λq=>by simp[q]) λq=>by simp[q])) (λk b vs hm=>w k b vs (by simp[hm])) z h3⟩
theorem z3E.fz{mg:Gm}{H:Hp}{Y:List Addr}:∀{xs:List D}{kvs:List (Key×V)}{k:Key}{b:Addr}{us:List V},z3E mg H Y xs kvs->zfc xs->(k,V.ref b)∈kvs->H b=some (.lst us)->False
 | [],_,k,b,us,h,f,hm,z=>by simp only[z3E]at h;subst h;simp at hm | d::ds,kvs,k,b,us,h,f,hm,z=>by
  obtain⟨k',ys,b',vs,r,rfl,h1,h2,h3⟩:=h;rcases _p.mp hm with e | hm
  ·cases e;rcases h2 with⟨q,_⟩ | ⟨_,o,q⟩
   ·obtain⟨k2,zs,e2⟩:=f d (.head _);rw[e2]at q;simp at q
   ·rw[q]at z;cases z
  ·exact z3E.fz h3 (λd hd=>f d (.tail _ hd)) hm z
theorem z3E.at_{mg:Gm}{H:Hp}{Y:List Addr}:∀{xs:List D}{kvs:List (Key×V)}{k:Key}{b:Addr},z3E mg H Y xs kvs->(k,V.ref b)∈kvs->∃u,H b=some u
 | [],_,k,b,h,hm=>by simp only[z3E]at h;subst h;simp at hm | d::ds,kvs,k,b,h,hm=>by
  obtain⟨k',ys,b',vs,r,rfl,h1,h2,h3⟩:=h;rcases _p.mp hm with e | hm
  ·cases e;rcases h2 with⟨_,q⟩ | ⟨_,o,q⟩<;>exact⟨_,q⟩
  ·exact z3E.at_ h3 hm
theorem Rep.ownAt(r:Rep mg H Y s){b:Addr}(h:Own H Y b):∃u,H b=some u:=by
 obtain⟨a,ha,kvs,k,e,hm⟩:=h;obtain⟨l,hl,el⟩:=_z.mp ha;have hl':l<s.length:=by rw[<- r.len];exact hl
 obtain⟨b',e1,c⟩:=r.cell l s[l] (_e hl');rw[_e hl]at e1;have:Y[l]=b':=_E e1;subst this;rw[el]at c;rcases c with⟨_,z,_⟩ | ⟨_,z,_⟩ | ⟨_,_,_,z,_⟩ | ⟨kvs',_,z,dk⟩ | ⟨_,_,_,z,_⟩<;>rw[e]at z<;>cases z;exact dk.at_ hm
def DkS(H:Hp)(Y:List Addr)(H':Hp)(Y':List Addr):Prop:=∀a∈Y',∀kvs,H' a=some (.dK kvs)->a∈Y/\H a=some (.dK kvs)
theorem DkS.own(d:DkS H Y H' Y'){b:Addr}(h:Own H' Y' b):Own H Y b:=by
 obtain⟨a,ha,kvs,k,e,hm⟩:=h;obtain⟨h1,h2⟩:=d a ha kvs e;exact⟨a,h1,kvs,k,h2,hm⟩
theorem DkS.uq(r:Rep mg H Y s)(d:DkS H Y H' Y'):∀a∈Y',∀a'∈Y',∀kvs kvs' (i j:Nat) k k' b,H' a=some (.dK kvs)->H' a'=some (.dK kvs')->kvs[i]? = some (k,V.ref b)->kvs'[j]? = some (k',V.ref b)->a=a'/\i=j:=λa ha a' ha' kvs kvs' i j k k' b e e'=> r.uq a (d a ha kvs e).1 a' (d a' ha' kvs' e').1 kvs kvs' i j k k' b (d a ha kvs e).2 (d a' ha' kvs' e').2
theorem z0S{p:Addr}{o:HO}{b:Addr}(h:upd H p o b=none):H b=none:=by
 by_cases z:b=p;·subst z;rw[zC]at h;cases h
 ·rw[zn z]at h;exact h
theorem vo.gen{xs:List D}{a:Addr}(k:Kp H H')(hi:∀(l:Nat) a,Y[l]? = some a->Y'[l]? = some a)(e:H' a=H a)(ha:a∈Y)(ro:∀b,Own H Y b->b∉Y)(w:∀b vs,b∉Y->H b=some (.lst vs)->H' b=some (.lst vs))(h:vo mg H Y xs a):vo mg H' Y' xs a:=by
 rcases h with⟨vs,h1,h2⟩ | ⟨kvs,h1,h2⟩ | ⟨o,kvs,ys,h1,h2⟩ | ⟨kvs,g,h1,h2⟩ | ⟨o,kvs,ys,h1,e1,h2,f⟩;·exact .inl ⟨vs,e.trans h1,h2.gen k hi⟩
 ·exact .inr (.inl ⟨kvs,e.trans h1,h2⟩)
 ·exact .inr (.inr (.inl ⟨o,kvs,ys,e.trans h1,h2⟩))
 ·exact .inr (.inr (.inr (.inl ⟨kvs,g,e.trans h1,h2.imp (λ_ _ _ _ q=>q.gen k hi) (λq b vs hm=>w b vs (ro b ⟨a,ha,kvs,q,h1,hm⟩)) λb o vs q=>k.k b _ q (by intro vs z;cases z) (by intro vs z;cases z) (by intro vs g z;cases z)⟩)))
 ·exact .inr (.inr (.inr (.inr ⟨o,kvs,ys,e.trans h1,e1,h2.imp (λ_ _ _ _ q=>q.gen k hi) (λq b vs hm z=>(h2.fz f.1 hm z).elim) λb o vs q=>k.k b _ q (by intro vs z;cases z) (by intro vs z;cases z) (by intro vs g z;cases z),f⟩)))
theorem vo.ne{xs:List D}{a p:Addr}(h:vo mg H Y xs a)(hp:H p=none):a≠p:=by
 rintro rfl;rcases h.kind with⟨_,e⟩ | ⟨_,e⟩ | ⟨_,_,e⟩ | ⟨_,_,e⟩ | ⟨_,_,e⟩<;>rw[hp]at e<;>cases e
theorem Rep.notin{p:Addr}(r:Rep mg H Y s)(hp:H p=none):p∉Y:=λz=>by rcases r.mt p z with⟨_,e⟩ | ⟨_,e⟩ | ⟨_,_,e⟩ | ⟨_,_,e⟩ | ⟨_,_,e⟩<;>rw[hp]at e<;>cases e
theorem yX.lay{p:Addr}{o:HO}(r:Rep mg H Y s)(hp:H p=none)(ho:∀vs,o≠.lst vs):yX mg H Y (upd H p o) Y s:= have d:DkS H Y (upd H p o) Y:=λa ha kvs e=>⟨ha,by rw[zn (show a≠p from λz=>r.notin hp (z ▸ ha))]at e;exact e⟩;⟨⟨r.len,r.nd,λl xs h=>let ⟨a,h1,h2⟩:=r.cell l xs h;⟨a,h1,h2.gen (.new hp) (λ_ _ q=>q) (zn (h2.ne hp)) (_y h1) r.own (λb vs _ q=>xh hp b _ q)⟩,r.flat,λb h=>r.own b (d.own h),d.uq r⟩,_cn _,λb u h _ _=>xh hp b u h,λa h1 h2=>absurd h1 h2,λa ha=>(r.mt a ha).imp (λh=>⟨h,(Kp.new hp).l a h⟩) λh=>⟨h,(Kp.new hp).c a h,λ_ _ e=>xh hp a _ e⟩,λb h=>z0S h,λb h=>.inl (d.own h)⟩
theorem yX.layC{p:Addr}{o:HO}{xs:List D}(r:Rep mg H Y s)(hp:H p=none)(hc:vo mg (upd H p o) (Y++[p]) xs p)(hf:D.flat.flats xs=true)(ho:∀kvs,o≠.dK kvs:=by intro _ z;cases z):yX mg H Y (upd H p o) (Y++[p]) (s++[xs]):=by
 have pn:p∉Y:=r.notin hp;have d:DkS H Y (upd H p o) (Y++[p]):=λa ha kvs e=>by
  by_cases z:a=p;·subst z;rw[zC]at e;exact absurd (_E e) (ho kvs)
  ·rw[zn z]at e;exact⟨(_M.mp ha).elim id λq=>absurd (by simpa using q) z,e⟩
 have hi:∀(l:Nat) a,Y[l]? = some a->(Y++[p])[l]? = some a:=λl a h=>by rw[_r (_d.mp h).1];exact h
 refine⟨⟨by simp[r.len],?_,λl ys h=>?_,λys h=>?_,λb h=>?_,d.uq r⟩,List.prefix_append _ _,λb u h _ _=>xh hp b u h,λa h1 h2=>?_,λa ha=>(r.mt a ha).imp (λh=>⟨h,(Kp.new hp).l a h⟩) λh=>⟨h,(Kp.new hp).c a h,λ_ _ e=>xh hp a _ e⟩,λb h=>z0S h,λb h=>.inl (d.own h)⟩
 ·rw[_dh];exact⟨r.nd,by simp,λa ha b hb=>by
   have:b=p:=by simpa using hb
   subst this;exact λz=>pn (z ▸ ha)⟩
 ·by_cases hl:l<s.length
  ·rw[_r hl]at h;obtain⟨a,h1,h2⟩:=r.cell l ys h;exact⟨a,hi l a h1,h2.gen (.new hp) hi (zn (h2.ne hp)) (_y h1) r.own (λb vs _ q=>xh hp b _ q)⟩
  ·have h0:l=s.length:=by
    have:=(_d.mp h).1;simp at this;omega
   subst h0;simp at h;subst h;exact⟨p,by rw[<- r.len];simp,hc⟩
 ·rcases _M.mp h with h | h;·exact r.flat ys h
  ·have:ys=xs:=by simpa using h
   rw[this];exact hf
 ·have q:=d.own h;obtain⟨u,hu⟩:=r.ownAt q;intro z;rcases _M.mp z with z | z;·exact r.own b q z
  ·have:b=p:=by simpa using z
   rw[this,hp]at hu;cases hu
 ·rcases _M.mp h1 with h | h;·exact absurd h h2
  ·have:a=p:=by simpa using h
   rw[this];exact hp
theorem yX.layL{p:Addr}{xs:List D}{vs:List V}(r:Rep mg H Y s)(hp:H p=none)(hd:zm mg H Y xs vs)(hf:D.flat.flats xs=true):yX mg H Y (upd H p (.lst vs)) (Y++[p]) (s++[xs]):= yX.layC r hp (.inl ⟨vs,zC,hd.gen (.new hp) λl a h=>by rw[_r (_d.mp h).1];exact h⟩) hf
theorem yX.putC{l:Nat}{a:Addr}{o:HO}{xs:List D}(r:Rep mg H Y s)(ha:Y[l]? = some a)(k:Kp H (upd H a o))(hc:vo mg (upd H a o) Y xs a)(hf:D.flat.flats xs=true)(ho:∀kvs,o≠.dK kvs:=by intro _ z;cases z):yX mg H Y (upd H a o) Y (s.set l xs):=by
 have d:DkS H Y (upd H a o) Y:=λb hb kvs e=>by
  by_cases z:b=a;·subst z;rw[zC]at e;exact absurd (_E e) (ho kvs)
  ·rw[zn z]at e;exact⟨hb,e⟩
 have hai:a∈Y:=_y ha;have hll:l<s.length:=by rw[<- r.len];exact (_d.mp ha).1
 refine⟨⟨by simp[r.len],r.nd,λj ys h=>?_,λys h=>?_,λb h=>r.own b (d.own h),d.uq r⟩,_cn _,λb u h hn _=>?_,λa h1 h2=>absurd h1 h2,λb hb=>(r.mt b hb).imp (λh=>⟨h,k.l b h⟩) λh=>⟨h,k.c b h,λ_ _ e=>k.k b _ e (by intro _ z;cases z) (by intro _ z;cases z) (by intro _ _ z;cases z)⟩,λb h=>z0S h,λb h=>.inl (d.own h)⟩
 ·by_cases hj:l=j
  ·subst hj;rw[_Z hll]at h;cases h;exact⟨a,ha,hc⟩
  ·rw[_L hj]at h;obtain⟨b,h1,h2⟩:=r.cell j ys h;refine⟨b,h1,h2.gen k (λ_ _ q=>q) (zn ?_) (_y h1) r.own (λc vs hc q=>by rw[zn (show c≠a from λz=>hc (z ▸ hai))];exact q)⟩;rintro rfl;have il:l<Y.length:=(_d.mp ha).1;have ij:j<Y.length:=(_d.mp h1).1;exact hj ((_aL r.nd).mp (((_d.mp ha).2).trans ((_d.mp h1).2).symm))
 ·rcases List.mem_or_eq_of_mem_set h with h | h;·exact r.flat ys h
  ·rw[h];exact hf
 ·rw[zn (λz=>by subst z;exact hn hai)];exact h
theorem yX.put{l:Nat}{a:Addr}{xs:List D}{vs:List V}(r:Rep mg H Y s)(ha:Y[l]? = some a)(ka:IsL H a)(hd:zm mg H Y xs vs)(hf:D.flat.flats xs=true):yX mg H Y (upd H a (.lst vs)) Y (s.set l xs):= yX.putC r ha (.putL ka) (.inl ⟨vs,zC,hd.gen (.putL ka) λ_ _ q=>q⟩) hf
def listOf(s:Sto):D->Option (List D)
 | .lst xs=>some xs | .loc l=>s[l]? | _=>none
def zY(s:Sto):D->Option (List D)
 | .tup xs=>some xs | .lst xs=>some xs | .scr xs=>some xs | .loc l=>s[l]? | _=>none
theorem zF{d:D}{xs:List D}{v:V}(r:Rep mg H Y s)(h:listOf s d=some xs)(dn:Den mg H Y d v):∃a vs,v=.ref a/\Rd H a (.lst vs)/\zm mg H Y xs vs:=by cases d with
 | lst ys=>
  simp only[listOf,_u]at h;subst h;simp only[Den]at dn;obtain⟨a,o,vs,e,h1,h2⟩:=dn;exact⟨a,vs,e,.inr ⟨o,h1⟩,h2⟩ | loc l=>
  simp only[Den]at dn;obtain⟨a,e,h1,k⟩:=dn;obtain⟨vs,h3,h4⟩:=r.at_ h h1 k;exact⟨a,vs,e,.inl h3,h4⟩ | _=>simp[listOf]at h
theorem zdy{xs:List D}{v:V}(dn:Den mg H Y (.scr xs) v):∃a vs,v=.ref a/\SqL mg.K H a vs/\zm mg H Y xs vs:=by
 simp only[Den]at dn;obtain⟨a,vs,e,h1,h2⟩:=dn;exact⟨a,vs,e,h1.elim (λ⟨o,h⟩=>.inl (.inr ⟨o,h⟩)) .inr,h2⟩
theorem vK{K:W.Frag}{d:D}{xs:List D}{v:V}(r:Rep mg H Y s)(h:zY s d=some xs)(dn:Den mg H Y d v)(hK:mg.K=K:=by rfl):∃a vs,v=.ref a/\(SqL K H a vs\/SqT K H a vs)/\zm mg H Y xs vs:=by cases d with
 | tup ys=>
  simp only[zY,_u]at h;subst h;simp only[Den]at dn;obtain⟨a,vs,e,h1,h2⟩:=dn;exact⟨a,vs,e,.inr (.inl (.inl h1)),h2⟩ | lst ys=>
  obtain⟨a,vs,e,h1,h2⟩:=zF (d:=.lst ys) r h dn;exact⟨a,vs,e,.inl (.inl h1),h2⟩ | scr ys=>
  simp only[zY,_u]at h;subst h;subst hK;obtain⟨a,vs,e,h1,h2⟩:=zdy dn;exact⟨a,vs,e,.inl h1,h2⟩ | loc l=>
  obtain⟨a,vs,e,h1,h2⟩:=zF (d:=.loc l) r h dn;exact⟨a,vs,e,.inl (.inl h1),h2⟩ | _=>simp[zY]at h
theorem vT{K:W.Frag}{xs:List D}{v:V}(dn:Den mg H Y (.tup xs) v):∃a vs,v=.ref a/\SqT K H a vs/\zm mg H Y xs vs:=by
 simp only[Den]at dn;obtain⟨a,vs,e,h1,h2⟩:=dn;exact⟨a,vs,e,.inl (.inl h1),h2⟩
end
def cap:Nat:=100000
theorem qa{n:Nat}(h:n<=cap):n<=sizeLine:=_ad h (by decide)
theorem zir{n:Nat}(h:n<cap):n<sizeLine:=_v h (by decide)
def BIG:Nat:=2 ^ 4096
def wP:D->D->Sto->R D
 | .int i,.int j,s=>.ok (.int (i+j)) s | .tup a,.tup b,s=>if a.length+b.length<=cap then .ok (.tup (a++b)) s else .no | x,y,s=>match listOf s x,listOf s y with
  | some a,some b=>if a.length+b.length<=cap then .ok (.lst (a++b)) s else .no | _,_=>.no
section
variable {X:Cx}{E:XK}
theorem zN{mg:Gm}{H:Hp}{Y:List Addr}{i:Int}{v:V}(h:Den mg H Y (.int i) v):v=.int i:=by simpa[Den] using h
theorem jq{mg:Gm}{H:Hp}{Y:List Addr}{i:Bool}{v:V}(h:Den mg H Y (.bl i) v):v=.bl i:=by simpa[Den] using h
theorem jP{mg:Gm}{H:Hp}{Y:List Addr}{i:Str}{v:V}(h:Den mg H Y (.str i) v):v=.str i:=by simpa[Den] using h
theorem yk{mg:Gm}{H:Hp}{Y:List Addr}{i:Int}:Den mg H Y (.int i) (.int i):=by simp[Den]
theorem wz{mg:Gm}{H:Hp}{Y:List Addr}{i:Bool}:Den mg H Y (.bl i) (.bl i):=by simp[Den]
theorem vc{mg:Gm}{H:Hp}{Y:List Addr}{s:Sto}{xs:List D}{vs:List V}{Q:VK}(r:Rep mg H Y s)(h:okR mg E H Y (Den mg) (.ok (.lst xs) s) Q)(hd:zm mg H Y xs vs):∀p,H p=none->z8t Q (.ref p) (upd H p (.lst vs)):=λp hp=>by
 refine⟨p,vs,rfl,zC,λo=>?_⟩;rw[z99];have stp:=yX.lay (o:=.frz o (.lst vs)) r hp (by intro _ z;cases z);refine h _ _ _ stp ?_;simp only[Den];exact⟨p,o,vs,rfl,zC,hd.mono stp⟩
theorem z1U{mg:Gm}{H:Hp}{Y:List Addr}{s:Sto}{xs:List D}{vs:List V}{Q:VK}(r:Rep mg H Y s)(h:okR mg E H Y (Den mg) (.ok (.tup xs) s) Q)(hd:zm mg H Y xs vs):∀p,H p=none->Q (.ref p) (upd H p (.tup vs)):=λp hp=>by
 have stp:=yX.lay (o:=.tup vs) r hp (by intro _ z;cases z);refine h _ _ _ stp ?_;simp only[Den];exact⟨p,vs,rfl,zC,hd.mono stp⟩
theorem wb:∃r,OpR X (binaryOp .Add) r/\OpF X E r wP:=by
 refine⟨_,zhA.or ((zcs).or ((zeT).or (zea.freeze))),?_⟩;intro H Y s d1 d2 v1 v2 Q r h1 h2 h;have lists:∀a b,listOf s d1=some a->listOf s d2=some b->okR (gm X) E H Y (Den (gm X)) (if a.length+b.length<=cap then R.ok (D.lst (a++b)) s else .no) Q-> ∃l b xs zs,v1=.ref l/\v2=.ref b/\Rd H l (.lst xs)/\Rd H b (.lst zs)/\xs.length+zs.length<=sizeLine/\∀p,H p=none->z8t Q (.ref p) (upd H p (.lst (xs++zs))):=λa b ha hb hq=>by
  obtain⟨l,vs,e,q1,q2⟩:=zF r ha h1;obtain⟨l',vs',e',q1',q2'⟩:=zF r hb h2;split at hq
  ·rename_i hl;exact⟨l,l',vs,vs',e,e',q1,q1',by rw[q2.length,q2'.length];exact qa hl,vc r hq (q2.append q2')⟩
  ·exact hq.elim
 unfold wP at h;split at h
 ·rename_i i j;cases zN h1;cases zN h2;exact .inl ⟨i,j,rfl,rfl,h.here r yk⟩
 ·rename_i a b;obtain⟨l,vs,rfl,q1,q2⟩:=vT (K:=X.K) h1;obtain⟨l',vs',rfl,q1',q2'⟩:=vT (K:=X.K) h2;split at h
  ·rename_i hl;cases a with
   | nil=>
    simp only[zm]at q2;subst q2;exact .inr (.inl ⟨l,l',vs',rfl,rfl,q1,q1',h.here r h2⟩) | cons x a=>
    have ne:vs≠[]:=λz=>by have:=q2.length;rw[z]at this;simp at this
    refine .inr (.inr (.inl ⟨l,l',vs,vs',rfl,rfl,q1,q1',ne,by rw[q2.length,q2'.length];exact qa hl,λz=>?_,λz=>z1U r h (q2.append q2')⟩));have eb:b=[]:=by
     have:=q2'.length;rw[z]at this;exact _bp.mp this.symm
    subst eb;rw[_aQ]at h;exact h.here r h1
  ·exact h.elim
 ·split at h
  ·rename_i a b ha hb;exact .inr (.inr (.inr (lists a b ha hb h)))
  ·exact h.elim
end
def dII(g:Int->Int->R D):D->D->Sto->R D
 | .int i,.int j,s=>match g i j with | .ok d _=>.ok d s | _=>.no
 | _,_,_=>.no
def iOk(d:D):R D:=.ok d []
def zbj:D->D->Sto->R D:=dII λi j=>iOk (.int (i-j))
def wI:D->D->Sto->R D:=dII λi j=>if i.natAbs<BIG/\j.natAbs<BIG then iOk (.int (i*j)) else .no
def z5V:D->D->Sto->R D:=dII λi j=>if 0<j/\j.natAbs<BIG then iOk (.int (i / j)) else .no
def za8:D->D->Sto->R D:=dII λi j=>if 0<j then iOk (.int (i % j)) else .no
def z8u:D->D->Sto->R D:=dII λi j=>if 0<=j/\j<=1000/\i.natAbs<1000 then iOk (.int (i ^ j.toNat)) else .no
def dLt:D->D->Sto->R D:=dII λi j=>iOk (.bl (decide (i<j)))
def dLe:D->D->Sto->R D:=dII λi j=>iOk (.bl (decide (i<=j)))
def dGt:D->D->Sto->R D:=dII λi j=>iOk (.bl (decide (j<i)))
def dGe:D->D->Sto->R D:=dII λi j=>iOk (.bl (decide (j<=i)))
section
variable {X:Cx}{E:XK}
theorem jH{g:Int->Int->R D}{r:R2}(h:∀i j d t H Q,g i j=.ok d t->(∀v,(∀H Y,Den (gm X) H Y d v)->Q v H)->r (.int i) (.int j) H Q):OpF X E r (dII g):=by
 intro H Y s d1 d2 v1 v2 Q rp h1 h2 hq;unfold dII at hq;split at hq
 ·rename_i i j;cases zN h1;cases zN h2;split at hq
  ·rename_i d t e;exact h i j d t H Q e λv hv=>hq.here rp (hv H Y)
  ·exact hq.elim
 ·exact hq.elim
theorem z82:∃r,OpR X (binaryOp .Sub) r/\OpF X E r zbj:=⟨_,zgw,jH λi j d t H Q e q=>by
 simp only[iOk,R.ok.injEq]at e;exact⟨i,j,rfl,rfl,q _ (by intro H Y;rw[<- e.1];exact yk)⟩⟩
theorem z7e{i:Int}(h:i.natAbs<BIG):Builtin.Int.intBits i<=2 ^ 20:=by
 have q:Builtin.Int.intBits i<=4096:=(PySem.intBits_le_iff (m:=4096)).mpr h;omega
theorem zfP:OpR X (binaryOp .Mult) (rI (λi j=>i.natAbs<BIG/\j.natAbs<BIG) λi j=>.int (i*j)):=opI λ_ _ _ _ _ _ _ hc q=>mul_int q (IntMulOk.of_bits (z7e hc.1) (z7e hc.2))
theorem kF:∃r,OpR X (binaryOp .Mult) r/\OpF X E r wI:=⟨_,zfP,jH λi j d t H Q e q=>by
 split at e
 ·rename_i hc;simp only[iOk,R.ok.injEq]at e;exact⟨i,j,rfl,rfl,hc,q _ (by intro H Y;rw[<- e.1];exact yk)⟩
 ·cases e⟩
theorem zeI{j:Int}(h:j.natAbs<BIG):j.natAbs.log2<9000:=by
 by_cases h0:j.natAbs=0;·rw[h0];decide +kernel
 ·have:j.natAbs.log2<4096:=(Nat.log2_lt h0).mpr h;omega
theorem zcF:OpR X (binaryOp .FloorDiv) (rI (λ_ j=>0<j/\j.natAbs<BIG) λi j=>.int (i / j)):=opI λi j _ _ _ _ _ hc q=>by
 refine floordiv_int (by omega) ?_ (.inl (PyProof.noPylong_of_log2 (zeI hc.2)));rw[Int.fdiv_eq_ediv_of_nonneg _ (by omega)];exact q
theorem zdH:∃r,OpR X (binaryOp .FloorDiv) r/\OpF X E r z5V:=⟨_,zcF,jH λi j d t H Q e q=>by
 split at e
 ·rename_i hc;simp only[iOk,R.ok.injEq]at e;exact⟨i,j,rfl,rfl,hc,q _ (by intro H Y;rw[<- e.1];exact yk)⟩
 ·cases e⟩
theorem zc1:∃r,OpR X (binaryOp .Mod) r/\OpF X E r za8:=⟨_,zgL,jH λi j d t H Q e q=>by
 split at e
 ·rename_i hc;simp only[iOk,R.ok.injEq]at e;exact⟨i,j,rfl,rfl,hc,q _ (by intro H Y;rw[<- e.1];exact yk)⟩
 ·cases e⟩
theorem zci:∃r,OpR X (binaryOp .Pow) r/\OpF X E r z8u:=⟨_,zie,jH λi j d t H Q e q=>by
 split at e
 ·rename_i hc;simp only[iOk,R.ok.injEq]at e;exact⟨i,j,rfl,rfl,⟨hc.1,by omega,by omega⟩,q _ (by intro H Y;rw[<- e.1];exact yk)⟩
 ·cases e⟩
theorem zkN:∃r,OpR X (compareOp .Lt) r/\OpF X E r dLt:=⟨_,zk9,jH λi j d t H Q e q=>by
 simp only[iOk,R.ok.injEq]at e;exact⟨i,j,rfl,rfl,q _ (by intro H Y;rw[<- e.1];exact wz)⟩⟩
theorem zgd:∃r,OpR X (compareOp .LtE) r/\OpF X E r dLe:=⟨_,ziT,jH λi j d t H Q e q=>by
 simp only[iOk,R.ok.injEq]at e;exact⟨i,j,rfl,rfl,q _ (by intro H Y;rw[<- e.1];exact wz)⟩⟩
theorem ziO:∃r,OpR X (compareOp .Gt) r/\OpF X E r dGt:=⟨_,zjG,jH λi j d t H Q e q=>by
 simp only[iOk,R.ok.injEq]at e;exact⟨i,j,rfl,rfl,q _ (by intro H Y;rw[<- e.1];exact wz)⟩⟩
theorem zkb:∃r,OpR X (compareOp .GtE) r/\OpF X E r dGe:=⟨_,zjP,jH λi j d t H Q e q=>by
 simp only[iOk,R.ok.injEq]at e;exact⟨i,j,rfl,rfl,q _ (by intro H Y;rw[<- e.1];exact wz)⟩⟩
end
mutual
def xl:D->PyData
 | .non=>.none | .bl b=>.bool b | .int i=>.int i | .str x=>.str x | .tup xs=>.tuple (toPys xs) | .lst xs=>.list (toPys xs) | _=>.dict []
def toPys:List D->List PyData
 | []=>[] | d::ds=>xl d::toPys ds
end
def eqD(a b:D):Bool:=PyData.eqv (xl a) (xl b)
def z8b(d:D):Bool:=SeqAt.shaped (xl d)
def dEq(x y:D)(s:Sto):R D:=if z8b x=true/\z8b y=true then .ok (.bl (eqD x y)) s else .no
def dNe(x y:D)(s:Sto):R D:=if z8b x=true/\z8b y=true then .ok (.bl (!eqD x y)) s else .no
section
variable {P:Program}{w:World}{mg:Gm}{H:Hp}{Y:List Addr}{h:Heap}
mutual
theorem Den.reads(ok:HOk P w H h):∀{d:D}{v:V}{u:Value},PyData.canLay0 (xl d)=true->Den mg H Y d v->yg v u->∃as,Reads h u (xl d) as
 | .non,_,_,_,dn,r=>by simp only[Den]at dn;subst dn;cases r;exact⟨_,by simpa[xl] using Reads.none⟩ | .bl b,_,_,_,dn,r=>by simp only[Den]at dn;subst dn;cases r;exact⟨_,by simpa[xl] using Reads.bool b⟩ | .int i,_,_,_,dn,r=>by simp only[Den]at dn;subst dn;obtain⟨t,rfl⟩:=r;exact⟨_,by simpa[xl] using Reads.int i t⟩ | .str x,_,_,_,dn,r=>by simp only[Den]at dn;subst dn;obtain⟨t,rfl⟩:=r;exact⟨_,by simpa[xl] using Reads.str x t⟩ | .tup ds,_,_,c,dn,r=>by
  simp only[Den]at dn;obtain⟨a,vs,rfl,h1,h2⟩:=dn;cases r;obtain⟨_,its,rv,o,e,hc,_,n,hd⟩:=ok a _ h1;obtain⟨as,q⟩:=zm.reads ok (by simpa[xl,PyData.canLay0] using c) h2 rv;rw[xl];exact⟨as,Reads.tuple e hc hd (by simpa using q)⟩ | .lst ds,_,_,c,dn,r=>by
  simp only[Den]at dn;obtain⟨a,o,vs,rfl,h1,h2⟩:=dn;cases r;obtain⟨_,_,its,n,rv,e⟩:=ok a _ h1;obtain⟨as,q⟩:=zm.reads ok (by simpa[xl,PyData.canLay0] using c) h2 rv;rw[xl];exact⟨_,Reads.list e rfl rfl (by simpa using q)⟩ | .dct,_,_,c,_,_=>by simp[xl,PyData.canLay0]at c | .loc _,_,_,c,_,_=>by simp[xl,PyData.canLay0]at c | .fn _,_,_,c,_,_=>by simp[xl,PyData.canLay0]at c | .exc _,_,_,c,_,_=>by simp[xl,PyData.canLay0]at c
theorem zm.reads(ok:HOk P w H h):∀{ds:List D}{vs:List V}{us:List Value},PyData.canLayAll0 (toPys ds)=true->zm mg H Y ds vs->yd vs us->∃as,ReadsAll h us (toPys ds) as
 | [],_,_,_,dn,r=>by simp only[zm]at dn;subst dn;cases r;exact⟨_,by simpa[toPys] using ReadsAll.nil⟩ | d::ds,_,_,c,dn,r=>by
  simp only[zm]at dn;obtain⟨v,vs,rfl,h1,h2⟩:=dn;simp only[toPys,PyData.canLayAll0,_T]at c;cases r with | cons r1 r2=>
   obtain⟨as,q⟩:=Den.reads ok c.1 h1 r1;obtain⟨bs,q'⟩:=zm.reads ok c.2 h2 r2;rw[toPys];exact⟨_,ReadsAll.cons q q'⟩
end
end
section
variable {X:Cx}{E:XK}
def zkG(mg:Gm)(neg:Bool):R2:=λx y H Q=>∃Y d1 d2,Den mg H Y d1 x/\Den mg H Y d2 y/\z8b d1=true/\z8b d2=true/\Q (.bl (if neg then !eqD d1 d2 else eqD d1 d2)) H
theorem zhW(hu:X.A.units+64<cLine):OpR X (compareOp .Eq) (zkG (gm X) false):=by
 intro pins s O H x y v u Q I rx ry ⟨Y,d1,d2,h1,h2,p1,p2,q⟩;obtain⟨as,ra⟩:=Den.reads I.hok (_aO p1) h1 rx;obtain⟨bs,rb⟩:=Den.reads I.hok (_aO p2) h2 ry;exact SeqAt.compareEq_shaped ra rb p1 p2 hu ⟨.bl (eqD d1 d2),H,I,rfl,q⟩
theorem ziA(hu:X.A.units+64<cLine):OpR X (compareOp .NotEq) (zkG (gm X) true):=by
 intro pins s O H x y v u Q I rx ry ⟨Y,d1,d2,h1,h2,p1,p2,q⟩;obtain⟨as,ra⟩:=Den.reads I.hok (_aO p1) h1 rx;obtain⟨bs,rb⟩:=Den.reads I.hok (_aO p2) h2 ry;exact SeqAt.compareNe_shaped ra rb p1 p2 hu ⟨.bl (!eqD d1 d2),H,I,rfl,q⟩
theorem zbI(hu:X.A.units+64<cLine):∃r,OpR X (compareOp .Eq) r/\OpF X E r dEq:=⟨_,zhW hu,λH Y s d1 d2 v1 v2 Q r h1 h2 h=>by
 unfold dEq at h;split at h
 ·rename_i hc;exact⟨Y,d1,d2,h1,h2,hc.1,hc.2,h.here r wz⟩
 ·exact h.elim⟩
theorem z5t(hu:X.A.units+64<cLine):∃r,OpR X (compareOp .NotEq) r/\OpF X E r dNe:=⟨_,ziA hu,λH Y s d1 d2 v1 v2 Q r h1 h2 h=>by
 unfold dNe at h;split at h
 ·rename_i hc;exact⟨Y,d1,d2,h1,h2,hc.1,hc.2,h.here r wz⟩
 ·exact h.elim⟩
def z1S:D->Option V
 | .non=>some .non | .bl b=>some (.bl b) | .int i=>some (.int i) | .str x=>some (.str x) | _=>none
theorem z4B{mg:Gm}{H:Hp}{Y:List Addr}{d:D}{v w:V}(h:z1S d=some w)(dn:Den mg H Y d v):v=w/\z1u v=true:=by cases d<;>simp only[z1S,_u,reduceCtorEq]at h<;>(simp only[Den]at dn;subst dn;subst h;exact⟨rfl,rfl⟩)
def qK:List D->Option (List V)
 | []=>some [] | d::ds=>match z1S d,qK ds with | some v,some vs=>some (v::vs) | _,_=>none
theorem z1Z{mg:Gm}{H:Hp}{Y:List Addr}:∀{ds:List D}{vs ws:List V},qK ds=some ws->zm mg H Y ds vs->vs=ws/\vs.all z1u=true
 | [],_,_,h,dn=>by simp only[qK,_u]at h;simp only[zm]at dn;subst dn;subst h;exact⟨rfl,rfl⟩ | d::ds,_,_,h,dn=>by
  simp only[zm]at dn;obtain⟨v,vs,rfl,h1,h2⟩:=dn;simp only[qK]at h;split at h
  ·rename_i w ws e1 e2;cases h;obtain⟨a1,a2⟩:=z4B e1 h1;obtain⟨b1,b2⟩:=z1Z e2 h2;exact⟨by rw[a1,b1],by rw[List.all_cons,a2,b2];rfl⟩
  ·cases h
def zee(neg:Bool)(x y:D)(s:Sto):R D:=match z1S x,(zY s y).bind qK with
 | some v,some vs=>.ok (.bl (if neg then !inV v vs else inV v vs)) s | _,_=>.no
theorem zin{neg:Bool}:OpF X E (rIn X.K neg) (zee neg):=λH Y s d1 d2 v1 v2 Q r h1 h2 h=>by
 unfold zee at h;split at h
 ·rename_i v vs e1 e2;cases e3:zY s d2 with
  | none=>rw[e3]at e2;cases e2 | some xs=>
   rw[e3]at e2;obtain⟨a,ws,rfl,q1,q2⟩:=vK (K:=X.K) r e3 h2;obtain⟨b1,b2⟩:=z1Z e2 q2;obtain⟨a1,a2⟩:=z4B e1 h1;subst a1 b1;exact⟨a,ws,rfl,q1,a2,b2,h.here r wz⟩
 ·exact h.elim
theorem zld:∃r,OpR X (compareOp .In) r/\OpF X E r (zee false):=⟨_,zaP,zin⟩
def dIx(x y:D)(s:Sto):R D:=match y,zY s x with
 | .int i,some xs=>match atI xs i with | some d=>.ok d s | none=>.no
 | _,_=>.no
theorem zbP{mg:Gm}{H:Hp}{Y:List Addr}{xs:List D}{vs:List V}{i:Int}{d:D}(h:zm mg H Y xs vs)(e:atI xs i=some d):∃v,atI vs i=some v/\Den mg H Y d v:=by
 unfold atI at e ⊢;rw[h.length];cases q:ixN xs.length i with
 | none=>rw[q]at e;cases e | some j=>
  rw[q]at e;exact h.get e
theorem zlq:∃r,IxR X r/\OpF X E r dIx:=⟨_,zf3.or zhM,λH Y s d1 d2 v1 v2 Q r h1 h2 h=>by
 unfold dIx at h;split at h
 ·rename_i i xs e;split at h
  ·rename_i d e2;cases zN h2;obtain⟨a,vs,rfl,q1,q2⟩:=vK (K:=X.K) r e h1;obtain⟨v,e3,e4⟩:=zbP q2 e2;rcases q1 with q1 | q1;·exact .inl ⟨a,vs,i,v,rfl,rfl,q1,e3,h.here r e4⟩
   ·exact .inr ⟨a,vs,i,v,rfl,rfl,q1,e3,h.here r e4⟩
  ·exact h.elim
 ·exact h.elim⟩
end
section
variable {X:Cx}{E:XK}{e a b c:Expr}{es:List Expr}{pos:Pos}
theorem zT{op:Operator}{fo:D->D->Sto->R D}{fa fb:FE}(ho:∃r,OpR X (binaryOp op) r/\OpF X E r fo)(ha:RE X E a fa)(hb:RE X E b fb):RE X E (.BinOp a op b pos) (eOp fo fa fb):=let ⟨_,h⟩:=ho;zl2 h ha hb
theorem z1L{op:CmpOp}{fo:D->D->Sto->R D}{fa fb:FE}(ho:∃r,OpR X (compareOp op) r/\OpF X E r fo)(ha:RE X E a fa)(hb:RE X E b fb)(hm:behindInMarks op b=false:=by first | exact zdU _ | rfl):RE X E (.Compare a [op] [b] pos) (eOp fo fa fb):=let ⟨_,h⟩:=ho;ziS h ha hb hm
def tOf(f:FE):FT:=fun ρ s=>(f ρ s).bind λd s1=>match d with | .bl k=>.ok k s1 | _=>.no
theorem z2c{f:FE}{O:L2.St}{H:Hp}{Q:Bool->Hp->Prop}(h:tT (gm X) E (tOf f) O H Q):zfa (tE (gm X) E f) O H Q:=by
 obtain⟨Y,ρ,s,r,en,h⟩:=h;refine zM (k:=fun ρ d s1=>match d with | .bl k=>.ok k s1 | _=>.no) r en h _ λv H1 Y1 s1 d r1 en1 dn stp h1=>?_;cases d with
 | bl k=>
  cases jq dn;exact⟨k,rfl,h1.here (b:=k) r1 rfl⟩ | _=>exact h1.elim
theorem zU{op:CmpOp}{fo:D->D->Sto->R D}{fa fb:FE}(ho:∃r,OpR X (compareOp op) r/\OpF X E r fo)(ha:RE X E a fa)(hb:RE X E b fb)(hm:behindInMarks op b=false:=by first | exact zdU _ | rfl):RT X E (.Compare a [op] [b] pos) (tOf (eOp fo fa fb)):=by
 obtain⟨r,h1,h2⟩:=ho;exact z7n (zeW h1 ha hb hm) λO H Q h=>by
  have q:=z2c h;exact z7r h2 q
def z1b(fo fo':D->D->Sto->R D)(fa fb fc:FE):FE:=fun ρ s=>(fa ρ s).bind λx s1=>(fb ρ s1).bind λy s2=>(fo x y s2).bind λz s3=>match z with
 | .bl true=>(fc ρ s3).bind λw s4=>fo' y w s4 | .bl false=>.ok (.bl false) s3 | _=>.no
theorem z4q{r r':R2}{fo fo':D->D->Sto->R D}{fa fb fc:FE}(ho:OpF X E r fo)(ho':OpF X E r' fo'){O:L2.St}{H:Hp}{Q:VK}(h:tE (gm X) E (z1b fo fo' fa fb fc) O H Q):z97 r r' (tE (gm X) E fa) (tE (gm X) E fb) (tE (gm X) E fc) O H Q:=by
 obtain⟨Y,ρ,s,rp,en,h⟩:=h;refine zM (k:=fun ρ x s1=>(fb ρ s1).bind λy s2=>(fo x y s2).bind λz s3=>match z with
  | .bl true=>(fc ρ s3).bind λw s4=>fo' y w s4 | .bl false=>.ok (.bl false) s3 | _=>.no) rp en h _ λv H1 Y1 s1 d r1 en1 dn stp h1=>?_;refine zM (k:=fun ρ y s2=>(fo d y s2).bind λz s3=>match z with
  | .bl true=>(fc ρ s3).bind λw s4=>fo' y w s4 | .bl false=>.ok (.bl false) s3 | _=>.no) r1 en1 h1 _ λv2 H2 Y2 s2 d2 r2 en2 dn2 stp2 h2=>?_;refine ho H2 Y2 s2 d d2 v v2 _ r2 (dn.mono stp2) dn2 ((okR.bind (Dn:=Den (gm X)) h2).imp λv3 H3 ⟨Y3,s3,d3,stp3,dn3,h3⟩=>?_);cases d3 with
 | bl k=>
  cases jq dn3;refine⟨k,rfl,?_⟩;cases k with
  | true=>
   rw[_f rfl];refine zM (k:=fun ρ w s4=>fo' d2 w s4) stp3.rep (en2.mono stp3) h3 _ λv4 H4 Y4 s4 d4 r4 en4 dn4 stp4 h4=>?_;exact ho' H4 Y4 s4 d2 d4 v2 v4 Q r4 ((dn2.mono stp3).mono stp4) dn4 h4 | false=>
   rw[_i (by decide)];exact okR.here (b:=V.bl false) h3 stp3.rep wz
 | _=>exact h3.elim
theorem zfo{op op':CmpOp}{fo fo':D->D->Sto->R D}{fa fb fc:FE}(ho:∃r,OpR X (compareOp op) r/\OpF X E r fo)(ho':∃r,OpR X (compareOp op') r/\OpF X E r fo')(ha:RE X E a fa)(hb:RE X E b fb)(hc:RE X E c fc) (hm:lastMarks [op,op'] [b,c]=false:=by with_unfolding_all rfl):RE X E (.Compare a [op,op'] [b,c] pos) (z1b fo fo' fa fb fc):=by
 obtain⟨r,h1,h2⟩:=ho;obtain⟨r',h1',h2'⟩:=ho';exact zQ (zcr h1 h1' ha hb hc hm) λO H Q h=>z4q h2 h2' h
def zgj(fa fb:FE):FE:=fun ρ s=>(fa ρ s).bind λx s1=>match x with | .bl true=>fb ρ s1 | .bl false=>.ok (.bl false) s1 | _=>.no
def zkm(fa:FE):FE:=fun ρ s=>(fa ρ s).bind λx s1=>match x with | .bl k=>.ok (.bl (!k)) s1 | _=>.no
variable {qu:List Expr}
theorem zcf{op:BoolOp}{f:FE}(h:RE X E a f):RE X E (.BoolOp op [a] pos) f:=zha h
theorem zcH{fa fb:FE}(ha:RE X E a fa)(hb:RE X E (.BoolOp .And (b::qu) pos) fb):RE X E (.BoolOp .And (a::b::qu) pos) (zgj fa fb):= zQ (zgp ha hb) λO H Q ⟨Y,ρ,s,r,en,h⟩=>by
  refine zM (k:=fun ρ x s1=>match x with | .bl true=>fb ρ s1 | .bl false=>.ok (.bl false) s1 | _=>.no) r en h _ λv H1 Y1 s1 d r1 en1 dn stp h1=>?_;cases d with
  | bl k=>
   cases jq dn;refine⟨k,rfl,?_⟩;cases k with
   | true=>rw[_f rfl];exact⟨Y1,ρ,s1,r1,en1,h1⟩ | false=>rw[_i (by decide)];exact okR.here (b:=V.bl false) h1 r1 wz
  | _=>exact h1.elim
theorem zjx{fa:FE}(ha:RE X E a fa):RE X E (.UnaryOp .Not a pos) (zkm fa):= zQ (zij ha) λO H Q ⟨Y,ρ,s,r,en,h⟩=>by
  refine zM (k:=fun ρ x s1=>match x with | .bl k=>R.ok (D.bl (!k)) s1 | _=>.no) r en h _ λv H1 Y1 s1 d r1 en1 dn stp h1=>?_;cases d with
  | bl k=>
   cases jq dn;exact⟨k,rfl,okR.here (b:=V.bl (!k)) h1 r1 wz⟩ | _=>exact h1.elim
def zgg(fa fb:FT):FT:=fun ρ s=>(fa ρ s).bind λx s1=>if x=true then fb ρ s1 else .ok false s1
def fOr(fa fb:FT):FT:=fun ρ s=>(fa ρ s).bind λx s1=>if x=true then .ok true s1 else fb ρ s1
def z3D(fa:FT):FT:=fun ρ s=>(fa ρ s).bind λx s1=>.ok (!x) s1
def RW(X:Cx)(E:XK)(e:Expr)(f:FT):Prop:=PW X e (tT (gm X) E f)
theorem RW.rt{f:FT}(h:RW X E e f):RT X E e f:=PW.pt h
theorem zds{t t':TT}(h:PW X e t)(i:∀O H Q,t' O H Q->t O H Q):PW X e t':=λwh pins s O H Q I q=>h wh pins s O H Q I (i O H Q q)
theorem z9J{f:FT}(h:RT X E a f):RW X E (.BoolOp .And [a] pos) f:=zfA h
theorem z2Y{f:FT}(h:RT X E a f):RW X E (.BoolOp .Or [a] pos) f:=zhu h
theorem w_and{fa fb:FT}(ha:RT X E a fa)(hb:RW X E (.BoolOp .And (b::qu) pos) fb):RW X E (.BoolOp .And (a::b::qu) pos) (zgg fa fb):= zds (zhs ha hb) λO H Q ⟨Y,ρ,s,r,en,h⟩=>by
  refine z0C (k:=fun ρ x s1=>if x=true then fb ρ s1 else .ok false s1) r en h _ λv H1 Y1 s1 r1 en1 stp h1=>?_;cases v with
  | true=>rw[_f rfl]at h1 ⊢;exact⟨Y1,ρ,s1,r1,en1,h1⟩ | false=>rw[_i (by decide)]at h1 ⊢;exact h1.here r1 rfl
theorem zcQ{fa fb:FT}(ha:RT X E a fa)(hb:RW X E (.BoolOp .Or (b::qu) pos) fb):RW X E (.BoolOp .Or (a::b::qu) pos) (fOr fa fb):= zds (zjX ha hb) λO H Q ⟨Y,ρ,s,r,en,h⟩=>by
  refine z0C (k:=fun ρ x s1=>if x=true then .ok true s1 else fb ρ s1) r en h _ λv H1 Y1 s1 r1 en1 stp h1=>?_;cases v with
  | false=>rw[_i (by decide)]at h1 ⊢;exact⟨Y1,ρ,s1,r1,en1,h1⟩ | true=>rw[_f rfl]at h1 ⊢;exact h1.here r1 rfl
theorem kX{fa:FT}(ha:RT X E a fa):RT X E (.UnaryOp .Not a pos) (z3D fa):= z7n (zgV ha) λO H Q ⟨Y,ρ,s,r,en,h⟩=>z0C (k:=fun ρ x s1=>.ok (!x) s1) r en h _ λv H1 Y1 s1 r1 en1 stp h1=>h1.here r1 rfl
theorem z0z{f:FE}(h:RE X E a f)(he:∀whole,isTrue a X.env whole=(do let v <- whole;standAt a.pos;holding [v] (truthy v)):=by intro _;rfl):RT X E a (tOf f):= z7n (zib h he) λO H Q h=>z2c h
def eIf(ft:FT)(fa fb:FE):FE:=fun ρ s=>(ft ρ s).bind λx s1=>if x=true then fa ρ s1 else fb ρ s1
theorem zja{ft:FT}{fa fb:FE}(hc:RT X E c ft)(ha:RE X E a fa)(hb:RE X E b fb):RE X E (.IfExp c a b pos) (eIf ft fa fb):= zQ (zc3 hc ha hb) λO H Q ⟨Y,ρ,s,r,en,h⟩=>z0C (k:=fun ρ x s1=>if x=true then fa ρ s1 else fb ρ s1) r en h _ λv H1 Y1 s1 r1 en1 stp h1=>by cases v with
  | true=>rw[_f rfl]at h1 ⊢;exact⟨Y1,ρ,s1,r1,en1,h1⟩ | false=>rw[_i (by decide)]at h1 ⊢;exact⟨Y1,ρ,s1,r1,en1,h1⟩
theorem z3F {fa fb:FE} (ha:RE X E a fa) (hb:RE X E b fb) (hs:z62 b:=by intro _ _;rfl):RE X E (.Subscript a b pos) (eOp dIx fa fb):=by
 obtain⟨r,h1,h2⟩:=zlq (X:=X) (E:=E);exact zQ (zhp h1 ha hb hs) λO H Q h=>z7r h2 h
def zi:FA:=λ_ s=>.ok [] s
def za(fa:FE)(fr:FA):FA:=fun ρ s=>(fa ρ s).bind λx s1=>(fr ρ s1).bind λxs s2=>.ok (x::xs) s2
theorem ze:RA X E [] zi:=zdl z0G λO H Q ⟨Y,ρ,s,r,en,h⟩=>h.here r zm.nil
theorem ji{fa:FE}{fr:FA}(ha:RE X E e fa)(hr:RA X E es fr)(hs:starEach (e::es) X.env=(false,eval e X.env)::starEach es X.env:=by rfl):RA X E (e::es) (za fa fr):= zdl (ut ha hr hs) λO H Q ⟨Y,ρ,s,r,en,h⟩=>by
  refine zM (k:=fun ρ x s1=>(fr ρ s1).bind λxs s2=>.ok (x::xs) s2) r en h _ λv H1 Y1 s1 d r1 en1 dn stp h1=>?_;refine vx (k:=fun ρ xs s2=>.ok (d::xs) s2) r1 en1 h1 _ λvs H2 Y2 s2 ds r2 en2 dn2 stp2 h2=>?_;exact h2.here r2 (zm.cons (dn.mono stp2) dn2)
def kC(f:FA):FE:=fun ρ s=>(f ρ s).bind λxs s1=>if xs.length<=cap then .ok (.tup xs) s1 else .no
theorem vZ{f:FA}{x1:Nat}(h:RA X E es f):RE X E (.Tuple es x1 pos) (kC f):= zQ (zgS h) λO H Q ⟨Y,ρ,s,r,en,h⟩=>by
  refine vx (k:=fun ρ xs s1=>if xs.length<=cap then R.ok (D.tup xs) s1 else .no) r en h _ λvs H2 Y2 s2 ds r2 en2 dn2 stp2 h2=>?_;split at h2
  ·rename_i hl;exact⟨by rw[dn2.length];exact qa hl,z1U r2 h2 dn2⟩
  ·exact h2.elim
def z9n(f:FA):FE:=fun ρ s=>(f ρ s).bind λxs s1=>if xs.length<=cap then .ok (.lst xs) s1 else .no
theorem z5G{f:FA}(h:RA X E es f):RE X E (.List es pos) (z9n f):= zQ (zdV h).freeze λO H Q ⟨Y,ρ,s,r,en,h⟩=>by
  refine vx (k:=fun ρ xs s1=>if xs.length<=cap then R.ok (D.lst xs) s1 else .no) r en h _ λvs H2 Y2 s2 ds r2 en2 dn2 stp2 h2=>?_;split at h2
  ·rename_i hl;exact⟨by rw[dn2.length];exact qa hl,vc r2 h2 dn2⟩
  ·exact h2.elim
def zfq(f:FA):FE:=fun ρ s=>(f ρ s).bind λxs s1=>if xs.length<=cap/\D.flat.flats xs=true then .ok (.loc s1.length) (s1++[xs]) else .no
theorem zd7{mg:Gm}{H:Hp}{Y:List Addr}{s:Sto}{xs:List D}{vs:List V}{Q:VK}(r:Rep mg H Y s)(h:okR mg E H Y (Den mg) (.ok (.loc s.length) (s++[xs])) Q)(hf:D.flat.flats xs=true)(hd:zm mg H Y xs vs):∀p,H p=none->Q (.ref p) (upd H p (.lst vs)):=λp hp=>by
 refine h _ _ _ (yX.layL r hp hd hf) ?_;simp only[Den];exact⟨p,rfl,by rw[<- r.len];simp,vs,zC⟩
theorem zaM{f:FA}(h:RA X E es f):RE X E (.List es pos) (zfq f):= zQ (zdV h) λO H Q ⟨Y,ρ,s,r,en,h⟩=>by
  refine vx (k:=fun ρ xs s1=>if xs.length<=cap/\D.flat.flats xs=true then R.ok (D.loc s1.length) (s1++[xs]) else .no) r en h _ λvs H2 Y2 s2 ds r2 en2 dn2 stp2 h2=>?_;split at h2
  ·rename_i hl;exact⟨by rw[dn2.length];exact qa hl.1,zd7 r2 h2 hl.2 dn2⟩
  ·exact h2.elim
def jJ(X:Cx)(E:XK)(r:List V->Hp->VK->Prop)(g:List D->Sto->R D):Prop:= ∀H Y s ds vs (Q:VK),Rep (gm X) H Y s->zm (gm X) H Y ds vs->okR (gm X) E H Y (Den (gm X)) (g ds s) Q->r vs H Q
def zd(g:List D->Sto->R D)(f:FA):FE:=fun ρ s=>(f ρ s).bind λxs s1=>g xs s1
theorem zG {x:Str} {p:Pos} {id:String} {g:List D->Sto->R D} {f:FA} (hc:∃r,yN X (.builtin id) r/\jJ X E r g) (hg:Gl X x) (hm:X.mg x=none) (hv:bootBuiltins x=some (.builtin id)) (ha:RA X E (e::es) f) (hn:x≠"__name__":=by decide) (hdb:(x==("__debug__":Str))=false:=by decide) (he:starEach (e::es) X.env=(false,eval e X.env)::starEach es X.env:=by rfl) (hpl:(backTo pos (starEach es X.env)).any (·.1)=false:=by rfl):RE X E (.Call (.Name x p) (e::es) [] pos) (zd g f):=by
 obtain⟨r,h1,h2⟩:=hc;exact zQ (z0a h1 hg hm hv ha hn hdb he hpl) λO H Q ⟨Y,ρ,s,r,en,h⟩=> vx (k:=fun ρ xs s1=>g xs s1) r en h _ λvs H2 Y2 s2 ds r2 en2 dn2 stp2 h3=>h2 H2 Y2 s2 ds vs Q r2 dn2 h3
theorem qB {x:Str} {p:Pos} {T:String} {g:List D->Sto->R D} {f:FA} (hc:∃r,yN X (.type T) r/\jJ X E r g) (hg:Gl X x) (hm:X.mg x=none) (hv:bootBuiltins x=some (.type T)) (ha:RA X E (e::es) f) (hn:x≠"__name__":=by decide) (hdb:(x==("__debug__":Str))=false:=by decide) (he:starEach (e::es) X.env=(false,eval e X.env)::starEach es X.env:=by rfl) (hpl:(backTo pos (starEach es X.env)).any (·.1)=false:=by rfl):RE X E (.Call (.Name x p) (e::es) [] pos) (zd g f):=by
 obtain⟨r,h1,h2⟩:=hc;exact zQ (z4Q h1 hg hm hv ha hn hdb he hpl) λO H Q ⟨Y,ρ,s,r,en,h⟩=> vx (k:=fun ρ xs s1=>g xs s1) r en h _ λvs H2 Y2 s2 ds r2 en2 dn2 stp2 h3=>h2 H2 Y2 s2 ds vs Q r2 dn2 h3
theorem jV{mg:Gm}{H:Hp}{Y:List Addr}{d:D}{vs:List V}(h:zm mg H Y [d] vs):∃v,vs=[v]/\Den mg H Y d v:=by
 simp only[zm]at h;obtain⟨v,r,rfl,h1,rfl⟩:=h;exact⟨v,rfl,h1⟩
theorem z3H{mg:Gm}{H:Hp}{Y:List Addr}{d d':D}{vs:List V}(h:zm mg H Y [d,d'] vs):∃v v',vs=[v,v']/\Den mg H Y d v/\Den mg H Y d' v':=by
 simp only[zm]at h;obtain⟨v,r,rfl,h1,v',r',rfl,h2,rfl⟩:=h;exact⟨v,v',rfl,h1,h2⟩
def vW:List D->Sto->R D
 | [d],s=>match zY s d with | some xs=>.ok (.int xs.length) s | none=>.no
 | _,_=>.no
theorem jS:∃r,yN X (.builtin "len") r/\jJ X E r vW:=⟨_,z4f,λH Y s ds vs Q r hd h=>by
 unfold vW at h;split at h
 ·split at h
  ·rename_i d xs e;obtain⟨v,rfl,dn⟩:=jV hd;obtain⟨a,ws,rfl,q1,q2⟩:=vK (K:=X.K) r e dn;exact⟨a,ws,rfl,q1,by rw[q2.length];exact h.here r yk⟩
  ·exact h.elim
 ·exact h.elim⟩
def uv:List D->Sto->R D
 | [d],s=>match zY s d with | some xs=>.ok (.tup xs) s | none=>.no
 | _,_=>.no
theorem kr:∃r,yN X (.type "tuple") r/\jJ X E r uv:=⟨_,z3m,λH Y s ds vs Q r hd h=>by match ds,hd,h with
 | [],_,h=>exact h.elim | _::_::_,_,h=>exact h.elim | [d],hd,h=>
  obtain⟨v,rfl,dn⟩:=jV hd;simp only[uv]at h;cases e:zY s d with
  | none=>rw[e]at h;exact h.elim | some xs=>
   rw[e]at h;cases d with
   | tup ys=>
    simp only[zY,_u]at e;subst e;obtain⟨a,ws,rfl,q1,q2⟩:=vT (K:=X.K) dn;exact⟨a,ws,rfl,.inr ⟨q1,h.here r dn⟩⟩ | lst ys=>
    obtain⟨a,ws,rfl,q1,q2⟩:=zF (d:=.lst ys) r e dn;exact⟨a,ws,rfl,.inl ⟨.inl q1,z1U r h q2⟩⟩ | loc l=>
    obtain⟨a,ws,rfl,q1,q2⟩:=zF (d:=.loc l) r e dn;exact⟨a,ws,rfl,.inl ⟨.inl q1,z1U r h q2⟩⟩ | scr ys=>
    simp only[zY,_u]at e;subst e;obtain⟨a,ws,rfl,q1,q2⟩:=zdy dn;exact⟨a,ws,rfl,.inl ⟨q1,z1U r h q2⟩⟩ | _=>simp[zY]at e⟩
def zgc:List D->Sto->R D
 | [.int i],s=>.ok (.int i) s | [.bl b],s=>.ok (.int (if b then 1 else 0)) s | _,_=>.no
theorem zjH:∃r,yN X (.type "int") r/\jJ X E r zgc:=⟨_,zah,λH Y s ds vs Q r hd h=>by
 unfold zgc at h;split at h
 ·rename_i i;obtain⟨v,rfl,dn⟩:=jV hd;cases zN dn;exact .inl ⟨i,rfl,h.here r yk⟩
 ·rename_i b;obtain⟨v,rfl,dn⟩:=jV hd;cases jq dn;exact .inr ⟨b,rfl,h.here r yk⟩
 ·exact h.elim⟩
def zcw:List D->Sto->R D
 | [.int i,.int j],s=>.ok (.int (if j > i then j else i)) s | _,_=>.no
def zcW:List D->Sto->R D
 | [.int i,.int j],s=>.ok (.int (if j<i then j else i)) s | _,_=>.no
theorem ziD(hc:X.calm=true):∃r,yN X (.builtin "max") r/\jJ X E r zcw:=⟨_,zaa hc,λH Y s ds vs Q r hd h=>by
 unfold zcw at h;split at h
 ·rename_i i j;obtain⟨v,v',rfl,d1,d2⟩:=z3H hd;cases zN d1;cases zN d2;exact⟨i,j,rfl,h.here r yk⟩
 ·exact h.elim⟩
theorem zhN(hc:X.calm=true):∃r,yN X (.builtin "min") r/\jJ X E r zcW:=⟨_,z8H hc,λH Y s ds vs Q r hd h=>by
 unfold zcW at h;split at h
 ·rename_i i j;obtain⟨v,v',rfl,d1,d2⟩:=z3H hd;cases zN d1;cases zN d2;exact⟨i,j,rfl,h.here r yk⟩
 ·exact h.elim⟩
abbrev FO:=Ev->Sto->R (Option Int)
def oD(_:Hp)(_:List Addr)(a b:Option Int):Prop:=a=b
def tO(mg:Gm)(E:XK)(f:FO):TO:=λO H Q=>∃Y ρ s,Rep mg H Y s/\wG mg H Y ρ O/\okR mg E H Y oD (f ρ s) Q
def RO(X:Cx)(E:XK)(e:Option Expr)(f:FO):Prop:=PO X e (tO (gm X) E f)
theorem zdk{o:Option Expr}{t t':TO}(h:PO X o t)(i:∀O H Q,t' O H Q->t O H Q):PO X o t':=λpins s O H Q I q=>h pins s O H Q I (i O H Q q)
def yj:FO:=λ_ s=>.ok none s
def wZ(f:FE):FO:=fun ρ s=>(f ρ s).bind λd s1=>match d with | .int i=>.ok (some i) s1 | _=>.no
theorem qg:RO X E none yj:=zdk zeY λO H Q ⟨Y,ρ,s,r,en,h⟩=>h.here (b:=none) r rfl
theorem qo{f:FE}(h:RE X E e f):RO X E (some e) (wZ f):=zdk (zfy h) λO H Q ⟨Y,ρ,s,r,en,h⟩=>by
 refine zM (k:=fun ρ d s1=>match d with | .int i=>.ok (some i) s1 | _=>.no) r en h _ λv H1 Y1 s1 d r1 en1 dn stp h1=>?_;cases d with
 | int i=>cases zN dn;exact⟨i,rfl,h1.here (b:=some i) r1 rfl⟩ | _=>exact h1.elim
def cutD(xs:List D)(lo hi:Option Int):List D:=(xs.drop (HT.sIx xs.length 0 lo)).take (HT.sIx xs.length xs.length hi-HT.sIx xs.length 0 lo)
theorem z2J{mg:Gm}{H:Hp}{Y:List Addr}{xs:List D}{vs:List V}(h:zm mg H Y xs vs)(lo hi:Option Int):zm mg H Y (cutD xs lo hi) (zdi vs lo hi):=by
 unfold cutD zdi;rw[h.length];exact (h.drop _).take _
def dSl(x:D)(lo hi:Option Int)(s:Sto):R D:=match x with
 | .tup xs=>.ok (.tup (cutD xs lo hi)) s | x=>match listOf s x with | some xs=>.ok (.lst (cutD xs lo hi)) s | none=>.no
def eSl(fe:FE)(fl fh:FO):FE:=fun ρ s=>(fe ρ s).bind λx s1=>(fl ρ s1).bind λlo s2=>(fh ρ s2).bind λhi s3=>dSl x lo hi s3
theorem zaz{α β:Type}{Dn:Hp->List Addr->α->β->Prop}{mg:Gm}{f:FO}{k:Ev->Option Int->Sto->R α}{O:L2.St}{H:Hp}{Q:β->Hp->Prop}{Y:List Addr}{ρ:Ev}{s:Sto}(r:Rep mg H Y s)(en:wG mg H Y ρ O) (h:okR mg E H Y Dn ((f ρ s).bind (k ρ)) Q)(K:Option Int->Hp->Prop) (hK:∀v H1 Y1 s1,Rep mg H1 Y1 s1->wG mg H1 Y1 ρ O->yX mg H Y H1 Y1 s1->okR mg E H1 Y1 Dn (k ρ v s1) Q->K v H1):tO mg E f O H K:= ⟨Y,ρ,s,r,en,(okR.bind (Dn:=oD) h).imp λv H1 ⟨Y1,s1,d,stp,dn,q⟩=>hK v H1 Y1 s1 stp.rep (en.mono stp) stp (by cases (show d=v from dn);exact q)⟩
theorem wX{lo hi:Option Expr}{p2:Pos}{fe:FE}{fl fh:FO}(he:RE X E e fe)(hl:RO X E lo fl)(hh:RO X E hi fh):RE X E (.Subscript e (.Slice lo hi none p2) pos) (eSl fe fl fh):= zQ (zcb ((zhe.or zfV).or zeo.freeze) he hl hh) λO H Q ⟨Y,ρ,s,r,en,h⟩=>by
  refine zM (k:=fun ρ x s1=>(fl ρ s1).bind λlo s2=>(fh ρ s2).bind λhi s3=>dSl x lo hi s3) r en h _ λv H1 Y1 s1 d r1 en1 dn stp h1=>?_;refine zaz (k:=fun ρ lo s2=>(fh ρ s2).bind λhi s3=>dSl d lo hi s3) r1 en1 h1 _ λlo H2 Y2 s2 r2 en2 stp2 h2=>?_;refine zaz (k:=fun ρ hi s3=>dSl d lo hi s3) r2 en2 h2 _ λhi H3 Y3 s3 r3 en3 stp3 h3=>?_;have dn3:=(dn.mono stp2).mono stp3;cases d with
  | tup xs=>
   obtain⟨a,vs,rfl,q1,q2⟩:=vT (K:=X.K) dn3;have h3':okR (gm X) E H3 Y3 (Den (gm X)) (.ok (.tup (cutD xs lo hi)) s3) Q:=h3;by_cases hw:HT.sIx vs.length 0 lo=0/\HT.sIx vs.length vs.length hi=vs.length
   ·refine .inl (.inr ⟨a,vs,rfl,q1,hw,?_⟩);have e:cutD xs lo hi=xs:=by
     unfold cutD;rw[<- q2.length,hw.1,hw.2];simp[q2.length]
    rw[e]at h3';exact h3'.here r3 dn3
   ·exact .inl (.inl ⟨a,vs,rfl,q1,hw,z1U r3 h3' (z2J q2 lo hi)⟩) | lst xs=>
   obtain⟨a,vs,rfl,q1,q2⟩:=zF (d:=.lst xs) r3 rfl dn3;exact .inr ⟨a,vs,rfl,.inl q1,vc r3 h3 (z2J q2 lo hi)⟩ | loc l=>
   simp only[dSl]at h3;split at h3
   ·rename_i xs e;obtain⟨a,vs,rfl,q1,q2⟩:=zF (d:=.loc l) r3 e dn3;exact .inr ⟨a,vs,rfl,.inl q1,vc r3 h3 (z2J q2 lo hi)⟩
   ·exact h3.elim | _=>exact h3.elim
end
abbrev Mir:=List D->Sto->R D
def zet(mg:Gm)(M:Mir):Sp:=λvs H Q E=>∃Y s ds,Rep mg H Y s/\zm mg H Y ds vs/\okR mg E H Y (Den mg) (M ds s) Q
def Has(P:Program)(w:World)(K:W.Frag)(mg:Str->Option Value)(base:Heap)(CX:CXT)(x:Str)(n:Nat)(M:Mir):Prop:= ∃f fd ps,z2R P w K mg base CX n f fd ps (zet ⟨mg,K⟩ M)/\Binds K fd ps []/\W.keepIn K (.ref f)=true/\mg x=some (.ref f)
section
variable {X:Cx}{E:XK}{e a b c:Expr}{es:List Expr}{pos:Pos}{CX:CXT}
theorem zix {x:Str} {p:Pos} {n:Nat} {M:Mir} {f:FA} (F:Has X.prog X.w X.K X.mg X.base CX x n M) (hr:z07 n X.A) (hx:Passes CX X E) (hg:Gl X x) (ha:RA X E (e::es) f) (hdb:(x==("__debug__":Str))=false:=by decide) (he:starEach (e::es) X.env=(false,eval e X.env)::starEach es X.env:=by rfl) (hpl:(backTo pos (starEach es X.env)).any (·.1)=false:=by rfl):RE X E (.Call (.Name x p) (e::es) [] pos) (zd M f):=by
 obtain⟨fa,fd,ps,F,hb,hk,hm⟩:=F;refine zQ (zeK F hr hg hm hk hb .nil hx ha hdb he hpl) λO H Q ⟨Y,ρ,s,r,en,h⟩=>?_;refine vx (k:=fun ρ xs s1=>M xs s1) r en h _ λvs H2 Y2 s2 ds r2 en2 dn2 stp2 h3=>?_;rw[_aQ];exact⟨Y2,s2,ds,r2,dn2,h3⟩
def zA(f g:FS):FS:=fun ρ s=>(f ρ s).bind λfl s1=>match fl with | .nx ρ'=>g ρ' s1 | fl=>.ok fl s1
def xM:FS:=fun ρ s=>.ok (.nx ρ) s
variable {st:Stmt}{rs:List Stmt}
theorem zhJ {mg:Gm} {f g:FS} {D:zfn} {O:L2.St} {H:Hp} (h:tS mg E (zA f g) D O H):zkx (tS mg E f) (tS mg E g) D O H:=by
 obtain⟨Y,ρ,s,r,en,h⟩:=h;refine⟨Y,ρ,s,r,en,(okR.bind (Dn:=FlD mg) h).imp λfv H1 ⟨Y1,s1,fl,stp,dn,q⟩=>?_⟩;cases fl with
 | nx ρ'=> cases fv with
  | nx O'=>exact⟨Y1,ρ',s1,stp.rep,dn,q⟩ | _=>exact (show False from dn).elim
 | rt d=> cases fv with
  | rt v=>exact okR.here (b:=FlV.rt v) (Q:=z35 D) (s:=s1) (a:=Fl.rt d) q stp.rep dn | _=>exact (show False from dn).elim
 | bk ρ'=> cases fv with
  | bk v=>exact okR.here (b:=FlV.bk v) (Q:=z35 D) (s:=s1) (a:=Fl.bk ρ') q stp.rep dn | _=>exact (show False from dn).elim
 | ct ρ'=> cases fv with
  | ct v=>exact okR.here (b:=FlV.ct v) (Q:=z35 D) (s:=s1) (a:=Fl.ct ρ') q stp.rep dn | _=>exact (show False from dn).elim
theorem yK:RSs X E [] xM:=zaj zex λD O H ⟨Y,ρ,s,r,en,h⟩=>okR.here (b:=FlV.nx O) h r en
theorem zf{f g:FS}(h1:RS X E st f)(h2:RSs X E rs g):RSs X E (st::rs) (zA f g):=zaj (zbr h1 h2) λD O H h=>zhJ h
theorem zj{f:FS}(h1:RS X E st f):RSs X E [st] f:=zev h1
def fNo:FS:=λ_ _=>.no
theorem z0k:RS X E st fNo:=wq zby λD O H ⟨_,_,_,_,_,h⟩=>h
def vU(f:FE):FS:=fun ρ s=>(f ρ s).bind λ_ s1=>.ok (.nx ρ) s1
theorem wF {f:FE} (he:RE X E e f) (hs:swapsWith e none pos.line X.env=pure false:=by rfl):RS X E (.Expr e pos) (vU f):= wq (zfw he hs) λD O H ⟨Y,ρ,s,r,en,h⟩=>zM (k:=fun ρ _ s1=>R.ok (Fl.nx ρ) s1) r en h _ λv H1 Y1 s1 d r1 en1 dn stp h1=>okR.here (b:=FlV.nx O) (Q:=z35 D) h1 r1 en1
def wg(f:FE):FS:=fun ρ s=>(f ρ s).bind λd s1=>.ok (.rt d) s1
theorem ya {f:FE} (he:RE X E e f):RS X E (.Return (some e) pos) (wg f):= wq (zgW he) λD O H ⟨Y,ρ,s,r,en,h⟩=>zM (k:=fun ρ d s1=>R.ok (Fl.rt d) s1) r en h _ λv H1 Y1 s1 d r1 en1 dn stp h1=>okR.here (b:=FlV.rt v) (Q:=z35 D) h1 r1 dn
def fIf(ft:FT)(f g:FS):FS:=fun ρ s=>(ft ρ s).bind λx s1=>if x=true then f ρ s1 else g ρ s1
theorem z01{ft:FT}{f g:FS}{as bs:List Stmt}(hc:RT X E c ft)(ha:RSs X E as f)(hb:RSs X E bs g):RS X E (.If c as bs pos) (fIf ft f g):= wq (zki hc ha hb) λD O H ⟨Y,ρ,s,r,en,h⟩=>z0C (k:=fun ρ x s1=>if x=true then f ρ s1 else g ρ s1) r en h _ λv H1 Y1 s1 r1 en1 stp h1=>by cases v with
  | true=>rw[_f rfl]at h1 ⊢;exact⟨Y1,ρ,s1,r1,en1,h1⟩ | false=>rw[_i (by decide)]at h1 ⊢;exact⟨Y1,ρ,s1,r1,en1,h1⟩
abbrev FG:=D->Ev->Sto->R Ev
def tG(mg:Gm)(E:XK)(f:FG):TG:=λv O H Q=>∃Y ρ s d,Rep mg H Y s/\wG mg H Y ρ O/\Den mg H Y d v/\okR mg E H Y (wG mg) (f d ρ s) (λO' H'=>Q O' H')
def RG(X:Cx)(E:XK)(tg:Expr)(f:FG):Prop:=PG X tg (tG (gm X) E f)
theorem zd6{tg:Expr}{t t':TG}(h:PG X tg t)(i:∀v O H Q,t' v O H Q->t v O H Q):PG X tg t':=λpins s O H v u Q I r q=>h pins s O H v u Q I r (i v O H Q q)
def wH(i:Nat):FG:=λd ρ s=>.ok (ρ.set i (some d)) s
theorem z29(i:Nat){x:Str}(hN:X.N.Nodup)(hi:X.N[i]? = some x:=by rfl)(hx:Loc X.env.scope x:=by first | exact Or.inl rfl | exact Or.inr rfl)(hf:X.fn x=true\/X.env.scope.names.lookup x=some .local:=by first | exact .inl rfl | exact .inr rfl | assumption):RG X E (.Name x pos) (wH i):= zd6 (yb hN hi hx hf) λv O H Q ⟨Y,ρ,s,d,r,en,dn,h⟩=>okR.here (b:=O.set i (some v)) h r (en.set dn i)
def xI(i j:Nat):FG:=λd ρ s=>match d with | .tup [x,y]=>.ok ((ρ.set i (some x)).set j (some y)) s | _=>.no
theorem qb(i j:Nat){x y:Str}{px py:Pos}{kt:Nat}(hc:X.calm=true)(hN:X.N.Nodup)(hi:X.N[i]? = some x:=by rfl)(hj:X.N[j]? = some y:=by rfl)(hx:Loc X.env.scope x:=by first | exact Or.inl rfl | exact Or.inr rfl)(hy:Loc X.env.scope y:=by first | exact Or.inl rfl | exact Or.inr rfl) (hf:X.fn x=true\/X.env.scope.names.lookup x=some .local:=by first | exact .inl rfl | exact .inr rfl | assumption)(hf':X.fn y=true\/X.env.scope.names.lookup y=some .local:=by first | exact .inl rfl | exact .inr rfl | assumption): RG X E (.Tuple [.Name x px,.Name y py] kt pos) (xI i j):= zd6 (zdM hc (z0d (yb hN hi hx hf) (z0d (yb hN hj hy hf') zaG))) λv O H Q ⟨Y,ρ,s,d,r,en,dn,h⟩=>by
  unfold xI at h;split at h
  ·rename_i d1 d2;obtain⟨p,vs,rfl,q1,q2⟩:=vT (K:=X.K) dn;obtain⟨v1,v2,rfl,e1,e2⟩:=z3H q2;exact⟨p,[v1,v2],rfl,q1,rfl,v1,[v2],rfl,v2,[],rfl,rfl,okR.here h r ((en.set e1 i).set e2 j)⟩
  ·exact h.elim
def vh(i:Nat)(f:FE):FS:=fun ρ s=>(f ρ s).bind λd s1=>.ok (.nx (ρ.set i (some d))) s1
theorem yY (i:Nat) {x:Str} {pos':Pos} {f:FE} (hN:X.N.Nodup) (he:RE X E e f) (hi:X.N[i]? = some x:=by rfl) (hx:Loc X.env.scope x:=by first | exact Or.inl rfl | exact Or.inr rfl) (hs:swapsWith e (some (.Name x pos')) pos.line X.env=pure false:=by rfl) (hf:X.fn x=true\/X.env.scope.names.lookup x=some .local:=by first | exact .inl rfl | exact .inr rfl | assumption):RS X E (.Assign [.Name x pos'] e pos) (vh i f):= wq (zit hN hi hx he hs hf) λD O H ⟨Y,ρ,s,r,en,h⟩=>zM (k:=fun ρ d s1=>R.ok (Fl.nx (ρ.set i (some d))) s1) r en h _ λv H1 Y1 s1 d r1 en1 dn stp h1=>okR.here (b:=FlV.nx (O.set i (some v))) (Q:=z35 D) h1 r1 (en1.set dn i)
def zbo(f:FE)(g:FG):FS:=fun ρ s=>(f ρ s).bind λd s1=>(g d ρ s1).bind fun ρ' s2=>.ok (.nx ρ') s2
theorem z3L {tg:Expr} {f:FE} {g:FG} (he:RE X E e f) (hg:RG X E tg g) (hs:swapsWithSole [tg] e pos.line X.env=pure false:=by rfl) (hw:swappedStores [tg] e X.env=pure none:=by rfl) (h1:(assignEach [tg] X.env).map (·.2)=[assign tg X.env]:=by rfl):RS X E (.Assign [tg] e pos) (zbo f g):= wq (zdv he hg hs hw h1) λD O H ⟨Y,ρ,s,r,en,h⟩=>zM (k:=fun ρ d s1=>(g d ρ s1).bind fun ρ' s2=>R.ok (Fl.nx ρ') s2) r en h _ λv H1 Y1 s1 d r1 en1 dn stp h1=> ⟨Y1,ρ,s1,d,r1,en1,dn,(okR.bind (Dn:=wG (gm X)) h1).imp λO' H' ⟨Y2,s2,ρ',stp2,en2,q⟩=>okR.here (b:=FlV.nx O') (Q:=z35 D) q stp2.rep en2⟩
def zkf(i j:Nat)(f:FA):FS:=fun ρ s=>(f ρ s).bind λds s1=>match ds with | [x,y]=>.ok (.nx ((ρ.set i (some x)).set j (some y))) s1 | _=>.no
theorem zke (i j:Nat) {x y:Str} {px py pt:Pos} {kt k2:Nat} {pt2:Pos} {f:FA} (hc:X.calm=true) (hN:X.N.Nodup) (ha:RA X E [a,b] f) (hi:X.N[i]? = some x:=by rfl) (hj:X.N[j]? = some y:=by rfl) (hij:i≠j:=by decide) (hx:X.env.scope.names.lookup x=some .local:=by rfl) (hy:X.env.scope.names.lookup y=some .local:=by rfl) (hw:swappedStores [.Tuple [.Name x px,.Name y py] kt pt] (.Tuple [a,b] k2 pt2) X.env=pure (some [x,y]):=by rfl) (hs:swapsWithSole [.Tuple [.Name x px,.Name y py] kt pt] (.Tuple [a,b] k2 pt2) pos.line X.env=pure false:=by rfl): RS X E (.Assign [.Tuple [.Name x px,.Name y py] kt pt] (.Tuple [a,b] k2 pt2) pos) (zkf i j f):= wq (zhy hc hN hi hj hij hx hy ha hw hs) λD O H ⟨Y,ρ,s,r,en,h⟩=>by
  refine vx (k:=fun ρ ds s1=>match ds with | [x,y]=>R.ok (Fl.nx ((ρ.set i (some x)).set j (some y))) s1 | _=>.no) r en h _ λvs H1 Y1 s1 ds r1 en1 dn stp h1=>?_;match ds,dn,h1 with
  | [],_,h1=>exact h1.elim | [_],_,h1=>exact h1.elim | _::_::_::_,_,h1=>exact h1.elim | [d1,d2],dn,h1=>
   obtain⟨v1,v2,rfl,e1,e2⟩:=z3H dn;exact⟨v1,v2,rfl,okR.here (b:=FlV.nx ((O.set i (some v1)).set j (some v2))) (Q:=z35 D) h1 r1 ((en1.set e1 i).set e2 j)⟩
def z4u(fo fi fv:FE):FS:=fun ρ s=>(fv ρ s).bind λd s1=>(fo ρ s1).bind λo s2=>(fi ρ s2).bind λi s3=>match o,i with
 | .loc l,.int k=>match s3[l]? with
  | some xs=>match ixN xs.length k with
   | some j=>if d.flat=true then .ok (.nx ρ) (s3.set l (xs.set j d)) else .no | none=>.no
  | none=>.no
 | _,_=>.no
theorem z3R:∀{xs:List D}{d:D}{j:Nat},D.flat.flats xs=true->d.flat=true->D.flat.flats (xs.set j d)=true
 | [],_,_,_,_=>rfl | x::xs,d,0,h,hd=>by
  simp only[D.flat.flats,_T,_a8]at h ⊢;exact⟨hd,h.2⟩ | x::xs,d,j+1,h,hd=>by
  simp only[D.flat.flats,_T,_b0]at h ⊢;exact⟨h.1,z3R h.2 hd⟩
theorem kP:∀{xs ys:List D},D.flat.flats xs=true->D.flat.flats ys=true->D.flat.flats (xs++ys)=true
 | [],_,_,h=>h | x::xs,ys,h,h'=>by
  simp only[D.flat.flats,_T,_bo]at h ⊢;exact⟨h.1,kP h.2 h'⟩
theorem z7d {o i:Expr} {p1:Pos} {fo fi fv:FE} (hv:RE X E e fv) (ho:RE X E o fo) (hi:RE X E i fi) (ha:∀v,assign (.Subscript o i p1) X.env v=(do
   let ov <- holding [v] (eval o X.env) let iv <- holding [v,ov] (eval i X.env)
   standAt p1
   holding [v,ov,iv] (setItem ov iv v)
   release [v,ov,iv] []):=by intro _;rfl) (hs:swapsWithSole [.Subscript o i p1] e pos.line X.env=pure false:=by rfl) (hw:swappedStores [.Subscript o i p1] e X.env=pure none:=by rfl) (h1:(assignEach [.Subscript o i p1] X.env).map (·.2)=[assign (.Subscript o i p1) X.env]:=by rfl):RS X E (.Assign [.Subscript o i p1] e pos) (z4u fo fi fv):= wq (zdv hv (zgl ho hi set_list ha) hs hw h1) λD O H ⟨Y,ρ,s,r,en,h⟩=>by
  unfold z4u at h;refine⟨Y,ρ,s,r,en,(okR.bind (Dn:=Den (gm X)) h).imp λv H1 ⟨Y1,s1,d,stp,dn,h1⟩=>?_⟩;refine⟨Y1,ρ,s1,stp.rep,en.mono stp,(okR.bind (Dn:=Den (gm X)) h1).imp λov H2 ⟨Y2,s2,od,stp2,dn2,h2⟩=>?_⟩;refine⟨Y2,ρ,s2,stp2.rep,(en.mono stp).mono stp2,(okR.bind (Dn:=Den (gm X)) h2).imp λiv H3 ⟨Y3,s3,id,stp3,dn3,h3⟩=>?_⟩;have en3:=((en.mono stp).mono stp2).mono stp3;have dv:=(dn.mono stp2).mono stp3;have dov:=dn2.mono stp3;cases od with
  | loc l=> cases id with
   | int k=>
    simp only at h3;split at h3
    ·rename_i xs ex;split at h3
     ·rename_i j ej;split at h3
      ·rename_i hf;cases zN dn3;simp only[Den]at dov;obtain⟨a,rfl,e1,ka⟩:=dov;obtain⟨vs,q1,q2⟩:=stp3.rep.at_ ex e1 ka;have stp4:=yX.put (l:=l) (xs:=xs.set j d) stp3.rep e1 ka (q2.set j dv) (z3R (stp3.rep.flat xs (_y ex)) hf);exact⟨a,vs,k,j,rfl,rfl,q1,by rw[q2.length];exact ej,h3 (.nx O) _ _ stp4 (en3.mono stp4)⟩
      ·exact h3.elim
     ·exact h3.elim
    ·exact h3.elim | _=>exact h3.elim
  | _=>exact h3.elim
def zfh(fo fv:FE):FE:=fun ρ s=>(fo ρ s).bind λo s1=>match o with
 | .loc l=>(fv ρ s1).bind λd s2=>match s2[l]? with
  | some xs=>if d.flat=true/\xs.length<cap then .ok .non (s2.set l (xs++[d])) else .no | none=>.no
 | _=>.no
theorem z3n {o:Expr} {apos:Pos} {fo fv:FE} (ho:RE X E o fo) (hv:RE X E e fv) (hbase:attributeBase o "append" X.env (eval o X.env)=eval o X.env:=by rfl) (hfew:((backTo pos (starEach [e] X.env)).all (λx=>!x.1)&&(backToKw pos (keywordEach [] X.env)).all (λx=>x.1.isSome) && decide ([e].length+([]:List Keyword).length+(if ([]:List Keyword).isEmpty then 0 else 1)<30))=true:=by rfl) (hline:(apos.endLine==pos.line)=true:=by rfl) (hs:starEach [e] X.env=(false,eval e X.env)::starEach [] X.env:=by rfl) (hplain:(backTo pos (starEach [] X.env)).any (·.1)=false:=by rfl): RE X E (.Call (.Attribute o "append" apos) [e] [] pos) (zfh fo fv):= zQ (zkc PySem.F.plainAttrs_list PySem.F.slot_list_append PySem.F.type_list_append zae ho (ut hv z0G hs) hbase hfew hline hs hplain) λO H Q ⟨Y,ρ,s,r,en,h⟩=>by
  unfold zfh at h;refine⟨Y,ρ,s,r,en,(okR.bind (Dn:=Den (gm X)) h).imp λov H1 ⟨Y1,s1,od,stp,dn,h1⟩=>?_⟩;cases od with
  | loc l=>
   simp only at h1;have hty:tyV X.K "list" ov H1:=by
    simp only[Den]at dn;obtain⟨a,rfl,e1,vs,e2⟩:=dn;exact .inl ⟨rfl,vs,.inl (.inl e2)⟩
   refine⟨hty,⟨Y1,ρ,s1,stp.rep,en.mono stp,(okR.bind (Dn:=Den (gm X)) h1).imp λv H2 ⟨Y2,s2,d,stp2,dn2,h2⟩=>?_⟩⟩;split at h2
   ·rename_i xs ex;split at h2
    ·rename_i hf;have dov:=dn.mono stp2;simp only[Den]at dov;obtain⟨a,rfl,e1,ka⟩:=dov;obtain⟨vs,q1,q2⟩:=stp2.rep.at_ ex e1 ka;have stp3:=yX.put (l:=l) (xs:=xs++[d]) stp2.rep e1 ka (q2.append (zm.one dn2)) (kP (stp2.rep.flat xs (_y ex)) (by simp[D.flat.flats,hf.1]));refine⟨a,vs,v,rfl,rfl,q1,by rw[q2.length];exact zir hf.2,h2 .non _ _ stp3 (by simp[Den])⟩
    ·exact h2.elim
   ·exact h2.elim | _=>exact h1.elim
end
end Dd
namespace L2
theorem zi2{X:Cx}{tg l:Expr}{tl:TE}(hl:PE X l tl):PI X tg l (λO H R=>tl O H λx H1=>∃a,x=.ref a/\(((∃xs,SqL X.K H1 a xs)/\R (Itl X.K a) H1)\/((∃xs,SqT X.K H1 a xs)/\R (Itt X.K a) H1))):=by
 intro pins s O H R I h;refine thn (hl pins s O H _ I h) λv s1 ⟨x,H1,I1,r1,q1⟩=>?_;obtain⟨a,e,q⟩:=q1;subst e;cases r1;rcases q with⟨⟨xs,hq⟩,q⟩ | ⟨⟨xs,hq⟩,q⟩
 ·obtain⟨its,rv,p,hz⟩:=I1.list hq;refine _di p.isList ?_;refine⟨s1.heap.objs.size,[s1.heap.objs.size],_,_,H1,rfl,I1.kept (t':=s1.toks) λb o e=>_c _ e,za9 a _,⟨_,_g _ rfl,rfl,rfl⟩,λb hb=>?_,q⟩;have e:b=s1.heap.objs.size:=by simpa using hb
  subst e;exact I1.fpOk (_h _) (I1.hok.fresh (_h _))
 ·obtain⟨its,rv,p,hz⟩:=I1.tuple hq;refine wpAny_pyIter_tuple (show s1.heap.IsTuple a its.toArray from p) ?_;refine⟨s1.heap.objs.size,[s1.heap.objs.size],_,_,H1,rfl,I1.kept (t':=s1.toks) λb o e=>_c _ e,z8h a _,⟨_,_g _ rfl,rfl,rfl⟩,λb hb=>?_,q⟩;have e:b=s1.heap.objs.size:=by simpa using hb
  subst e;exact I1.fpOk (_h _) (I1.hok.fresh (_h _))
theorem jd.freeze{X:Cx}{pins:List (Addr×Obj)}{O:L2.St}{C:Addr}{Q:VK}{acc:Value}{s':Shared}(h:jd X pins O C (z8t Q) acc s'):jd X pins O C Q acc s':=by
 obtain⟨v,Hf,I,r,⟨a,xs,rfl,ha,q⟩,hm,f⟩:=h;obtain⟨its,n,rv,e,_⟩:=I.lst ha;refine⟨_,_,I.freeze ha e (by intro _ z;cases z) (by intro _ _ z;cases z) (by intro _ z;cases z) (by intro _ z;cases z),r,q _,hm,?_,f.2⟩;rw[zn (λz=>by have:=f.1;rw[z,ha]at this;cases this)];exact f.1
theorem z5D {X:Cx} {tg iter elt:Expr} {ifs:List Expr} {scope:Scope} {pos spos py:Pos} {wi:TI} {g:TG} {ti:TT} {te:TE} {i:Nat} {y:Str} (N':List Str) (mp:List (Option Nat)) (hN:X.N.Nodup) (hy:X.N[i]? = some y) (hyl:Loc X.env.scope y) (hc:X.calm=true) (hi:PI X tg iter wi) (hg:∀ex s H,PG (zp X N' scope ex s H) tg g) (ht:∀ex s H,z8N (zp X N' scope ex s H) ifs ti) (he:∀ex s H,PE (zp X N' scope ex s H) elt te) (hkd:scope.kind=.function) (hnm:∀y∈scope.names,scope.names.lookup y.1=some y.2) (hfr:∀y∈scope.names,y.2=.free->X.env.kindOf y.1=some .cell\/X.env.kindOf y.1=some .free) (hmp:z1C X.N scope.names N' mp=true) (hs:∀x,foldedSetIterable iter X.env x=pure x:=by intro _;rfl) (hsw:swapsWith (.ListComp elt [⟨tg,iter,ifs,0⟩] scope pos) (some (.Name y py)) spos.line X.env=pure true:=by rfl) (hf:X.fn y=true\/X.env.scope.names.lookup y=some .local:=by first | exact .inl rfl | exact .inr rfl | assumption): PS X (.Assign [.Name y py] (.ListComp elt [⟨tg,iter,ifs,0⟩] scope pos) spos) (λD O H=>zg5 wi mp g ti te O H (z8t λv H'=>D.nx (O.set i (some v)) H')):=by
 intro pins s O H D I h;rw[exec_Assign_Name_used _ _ _ _ hsw];refine _a (_aS (_a ?_));show wpAny _ X.A (do let _ <- comprehension (.ListComp elt [⟨tg,iter,ifs,0⟩] scope pos) scope X.env _ (newList []) false (eval iter X.env) (some (assign (.Name y py) X.env))) _ _ s;refine _a (_D (_bM (use:=some (assign (.Name y py) X.env)) (Q:=λ_ s'=>SP X pins D .next s') rfl hs (vO λy hy hf=>I.ok.has _ (hfr y hy hf)) hkd (λy hy hl=>by rw[hnm y hy,hl]) (thn (hi pins s O H _ I h) λxv s₁ h₁=>thn h₁ λitv s₂ h₂=>?_)) (λ_ s' hq=>_b (_b hq)) λ_ _ e=>e);obtain⟨it,fp,tn,J,H2,e,I2,T,st2,f2,W,w0,turn⟩:=h₂;subst e;refine z1T (N':=N') (mp:=mp) (O:=O) (pins:=pins) (Q:=z8t λv H'=>D.nx (O.set i (some v)) H') (RR:=λacc C=>compPost (model X.prog X.w) X.A X.xe (some (assign (.Name y py) X.env)) (λ_ s'=>SP X pins D .next s') acc C) hc hg ht he hkd hnm hfr hmp I2 T st2 f2 W w0 turn ?_;intro acc C s' hd;obtain⟨v,Hf,I3,r,q,⟨m,hm⟩,f⟩:=hd.freeze;refine _db (z0V I3 hN hy hyl r (λs'' I4 ⟨a,sb,ha⟩=>?_) hf);have hC:C≠a:=by
  rcases ha with z | z;·rw[z];exact f.2.1
  ·exact _a4 (f.2.2.2.2.1 y a z)
 exact⟨m,hm.sameBut sb hC,λh' sb'=>⟨_,Hf,qT I4 f sb',q⟩⟩
end L2
namespace Dd
open L2
abbrev ItD:=List D×List (Nat×List D)
def okG(g:List (Nat×List D))(all:List D)(s:Sto):Prop:=∀p∈g,s[p.1]? = some p.2
def zbm(mg:Gm)(H0:Hp)(Y0:List Addr)(a:ItD)(J:It):Prop:=∀H Y s,yX mg H0 Y0 H Y s->okG a.2 a.1 s->∀i:Nat, (∀d,a.1[i]? = some d->J.go i H/\∀x H',J.yld i H x H'->∃Y',yX mg H Y H' Y' s/\Den mg H' Y' d x)/\(a.1.length<=i->J.stop i H)
abbrev FI:=Ev->Sto->R ItD
def tI(mg:Gm)(E:XK)(f:FI):TI:=λO H Rr=>∃Y ρ s,Rep mg H Y s/\wG mg H Y ρ O/\okR mg E H Y (zbm mg) (f ρ s) Rr
def RI(X:Cx)(E:XK)(tg it:Expr)(f:FI):Prop:=PI X tg it (tI (gm X) E f)
section
variable {X:Cx}{E:XK}{e a b c tg:Expr}{es:List Expr}{pos:Pos}{CX:CXT}
theorem z1H{it:Expr}{t t':TI}(h:PI X tg it t)(i:∀O H Q,t' O H Q->t O H Q):PI X tg it t':=λpins s O H Q I q=>h pins s O H Q I (i O H Q q)
def yG(f:FE):FI:=fun ρ s=>(f ρ s).bind λd s1=>match d with
 | .tup xs=>.ok (xs,[]) s1 | .lst xs=>.ok (xs,[]) s1 | .loc l=>match s1[l]? with | some xs=>.ok (xs,[(l,xs)]) s1 | none=>.no
 | _=>.no
theorem uC{f:FE}(h:RE X E e f):RI X E tg e (yG f):=z1H (zi2 h) λO H Q ⟨Y,ρ,s,r,en,h⟩=>by
 unfold yG at h;refine⟨Y,ρ,s,r,en,(okR.bind (Dn:=Den (gm X)) h).imp λv H1 ⟨Y1,s1,d,stp,dn,h1⟩=>?_⟩;have lst:∀(a:Addr)(xs:List D)(g:List (Nat×List D)),(∀H2 Y2 s2,yX (gm X) H1 Y1 H2 Y2 s2->okG g xs s2->∃ws,SqL X.K H2 a ws/\zm (gm X) H2 Y2 xs ws)->zbm (gm X) H1 Y1 (xs,g) (Itl X.K a):=λa xs g hq H2 Y2 s2 stp2 hg i=>by
  obtain⟨ws,q1,q2⟩:=hq H2 Y2 s2 stp2 hg;refine⟨λd hd=>?_,λhl=>⟨ws,q1,by rw[q2.length];exact hl⟩⟩;obtain⟨v,e1,e2⟩:=q2.get hd;refine⟨⟨ws,v,q1,e1⟩,λx H' ⟨e3,y⟩=>?_⟩;subst e3;have e4:=y ws q1;rw[e1]at e4;cases e4;exact⟨Y2,.refl stp2.rep,e2⟩
 have tup:∀(a:Addr)(xs:List D),(∀H2 Y2 s2,yX (gm X) H1 Y1 H2 Y2 s2->∃ws,SqT X.K H2 a ws/\zm (gm X) H2 Y2 xs ws)->zbm (gm X) H1 Y1 (xs,[]) (Itt X.K a):=λa xs hq H2 Y2 s2 stp2 hg i=>by
  obtain⟨ws,q1,q2⟩:=hq H2 Y2 s2 stp2;refine⟨λd hd=>?_,λhl=>⟨ws,q1,by rw[q2.length];exact hl⟩⟩;obtain⟨v,e1,e2⟩:=q2.get hd;refine⟨⟨ws,v,q1,e1⟩,λx H' ⟨e3,y⟩=>?_⟩;subst e3;have e4:=y ws q1;rw[e1]at e4;cases e4;exact⟨Y2,.refl stp2.rep,e2⟩
 cases d with
 | tup xs=>
  have h1':okR (gm X) E H1 Y1 (zbm (gm X)) (.ok (xs,[]) s1) Q:=h1;obtain⟨a,vs,rfl,q1,q2⟩:=vT (K:=X.K) dn;refine⟨a,rfl,.inr ⟨⟨vs,q1⟩,h1'.here stp.rep (tup a xs λH2 Y2 s2 stp2=>?_)⟩⟩;have dn2:=dn.mono stp2;obtain⟨a',ws,e,q3,q4⟩:=vT (K:=X.K) dn2;cases e;exact⟨ws,q3,q4⟩ | lst xs=>
  have h1':okR (gm X) E H1 Y1 (zbm (gm X)) (.ok (xs,[]) s1) Q:=h1;obtain⟨a,vs,rfl,q1,q2⟩:=zF (d:=.lst xs) stp.rep rfl dn;refine⟨a,rfl,.inl ⟨⟨vs,.inl q1⟩,h1'.here stp.rep (lst a xs [] λH2 Y2 s2 stp2 _=>?_)⟩⟩;obtain⟨a',ws,e,q3,q4⟩:=zF (d:=.lst xs) stp2.rep rfl (dn.mono stp2);cases e;exact⟨ws,.inl q3,q4⟩ | loc l=>
  simp only at h1;split at h1
  ·rename_i xs ex;obtain⟨a,vs,rfl,q1,q2⟩:=zF (d:=.loc l) stp.rep ex dn;refine⟨a,rfl,.inl ⟨⟨vs,.inl q1⟩,h1.here stp.rep (lst a xs [(l,xs)] λH2 Y2 s2 stp2 hg=>?_)⟩⟩;obtain⟨a',ws,e,q3,q4⟩:=zF (d:=.loc l) stp2.rep (hg (l,xs) (by simp)) (dn.mono stp2);cases e;exact⟨ws,.inl q3,q4⟩
  ·exact h1.elim | _=>exact h1.elim
end
section
variable {X:Cx}{E:XK}{e a b c tg:Expr}{es:List Expr}{pos:Pos}{CX:CXT}
def ye(n:Nat):List D:=(List.range n).map λ(k:Nat)=>D.int ((k:Nat):Int)
def z5g(f:FA):FI:=fun ρ s=>(f ρ s).bind λds s1=>match ds with
 | [.int j]=>if -(2 ^ 62)<=j/\j<2 ^ 62 then .ok (ye j.toNat,[]) s1 else .no | _=>.no
theorem qG{p:Pos}{f:FA}(hg:Gl X "range")(hm:X.mg "range"=none)(ha:RA X E [a] f)(hs:starEach [a] X.env=[(false,eval a X.env)]:=by rfl):RI X E tg (.Call (.Name "range" p) [a] [] pos) (z5g f):= z1H (zb8 hg hm ha hs) λO H Q ⟨Y,ρ,s,r,en,h⟩=>by
  unfold z5g at h;refine⟨Y,ρ,s,r,en,(okR.bind (Dn:=zm (gm X)) h).imp λvs H1 ⟨Y1,s1,ds,stp,dn,h1⟩=>?_⟩;split at h1
  ·rename_i j;split at h1
   ·rename_i hj;obtain⟨v,rfl,d1⟩:=jV dn;cases zN d1;refine⟨j,rfl,hj.1,hj.2,h1.here stp.rep λH2 Y2 s2 stp2 _ i=>⟨λd hd=>?_,λhl=>?_⟩⟩
    ·have hi:i<j.toNat:=by
      have:=(_d.mp hd).1;simpa[ye] using this
     refine⟨hi,λx H' ⟨e1,e2⟩=>?_⟩;subst e1 e2;refine⟨Y2,.refl stp2.rep,?_⟩;have e3:d=D.int i:=by
      simp only[ye,_S,_cP hi,_H,_u]at hd;exact hd.symm
     rw[e3];simp[Den]
    ·have:(ye j.toNat).length=j.toNat:=by simp[ye]
     show j.toNat<=i;rw[<- this];exact hl
   ·exact h1.elim
  ·exact h1.elim
open Classical in
def wE(g:List (Nat×List D))(all:List D)(body:D->Ev->Sto->R Fl):List D->Ev->Sto->R Fl
 | [],ρ,s=>if okG g all s then .ok (.nx ρ) s else .no | x::xs,ρ,s=>if okG g all s then (body x ρ s).bind λfl s1=>match fl with
   | .nx ρ'=>wE g all body xs ρ' s1 | .ct ρ'=>wE g all body xs ρ' s1 | .bk ρ'=>.ok (.nx ρ') s1 | .rt d=>.ok (.rt d) s1 else .no
def z9p(fi:FI)(fg:FG)(fb:FS):FS:=fun ρ s=>(fi ρ s).bind λit s1=>wE it.2 it.1 (λd ρ s=>(fg d ρ s).bind fun ρ' s'=>fb ρ' s') it.1 ρ s1
theorem z4E {iter:Expr} {body:List Stmt} {fi:FI} {fg:FG} {fb:FS} (hp:PassesOwn (model X.prog X.w) X.A X.env X.xe) (hc:X.calm=true) (hi:RI X E tg iter fi) (hg:RG X E tg fg) (hb:RSs X E body fb) (hs:∀x,foldedSetIterable iter X.env x=pure x:=by intro _;rfl):RS X E (.For tg iter body [] pos) (z9p fi fg fb):= wq (zhC hp hc hi hg hb hs) λD O H ⟨Y,ρ,s,r,en,h⟩=>by
  unfold z9p at h;refine⟨Y,ρ,s,r,en,(okR.bind (Dn:=zbm (gm X)) h).imp λJ H1 ⟨Y1,s1,it,stp,ok,h1⟩=>?_⟩;obtain⟨items,g⟩:=it;simp only at h1;refine⟨λi m O H=>∃Y ρ s,yX (gm X) H1 Y1 H Y s/\wG (gm X) H Y ρ O/\m=items.length-i/\i<=items.length/\ okR (gm X) E H Y (FlD (gm X)) (wE g items (λd ρ s=>(fg d ρ s).bind fun ρ' s'=>fb ρ' s') (items.drop i) ρ s) (z35 D), ⟨items.length,Y1,ρ,s1,.refl stp.rep,en.mono stp,by simp,_Y _,by simpa using h1⟩,?_⟩;rintro i m O H ⟨Y2,ρ2,s2,stp2,en2,rfl,hil,h2⟩;by_cases hlt:i<items.length
  ·right;rw[_ax hlt,wE]at h2;split at h2
   ·rename_i hG;obtain⟨go,yl⟩:=((ok H Y2 s2 stp2 hG i).1 items[i] (_e hlt));refine⟨go,λO' H'=>∃Y ρ s,yX (gm X) H1 Y1 H' Y s/\wG (gm X) H' Y ρ O'/\okR (gm X) E H' Y (FlD (gm X)) (wE g items (λd ρ s=>(fg d ρ s).bind fun ρ' s'=>fb ρ' s') (items.drop (i+1)) ρ s) (z35 D), λO' H' ⟨Y3,ρ3,s3,q1,q2,q3⟩=>⟨items.length-(i+1),by omega,Y3,ρ3,s3,q1,q2,rfl,hlt,q3⟩,λx H' y=>?_⟩;obtain⟨Y3,stp3,dn3⟩:=yl x H' y;have h3:=okR.rebase h2 stp3;have h4:=okR.bind (Dn:=FlD (gm X)) h3;refine⟨Y3,ρ2,s2,items[i],stp3.rep,en2.mono stp3,dn3,(okR.bind (Dn:=wG (gm X)) h4).imp λO5 H5 ⟨Y5,s5,ρ5,stp5,en5,h5⟩=>?_⟩;refine⟨Y5,ρ5,s5,stp5.rep,en5,h5.imp λfv H6 ⟨Y6,s6,fl,stp6,dn6,q6⟩=>?_⟩;have all6:yX (gm X) H1 Y1 H6 Y6 s6:=(stp2.trans stp3).trans stp6;cases fl with
    | nx ρ'=> cases fv with
     | nx O'=>exact⟨Y6,ρ',s6,all6,dn6,q6⟩ | _=>exact (show False from dn6).elim
    | ct ρ'=> cases fv with
     | ct O'=>exact⟨Y6,ρ',s6,all6,dn6,q6⟩ | _=>exact (show False from dn6).elim
    | bk ρ'=> cases fv with
     | bk O'=>exact okR.here (b:=FlV.nx O') (Q:=z35 D) (a:=Fl.nx ρ') (s:=s6) q6 stp6.rep dn6 | _=>exact (show False from dn6).elim
    | rt d=> cases fv with
     | rt v=>exact okR.here (b:=FlV.rt v) (Q:=z35 D) (a:=Fl.rt d) (s:=s6) q6 stp6.rep dn6 | _=>exact (show False from dn6).elim
   ·exact h2.elim
  ·left;have e:i=items.length:=by omega
   subst e;rw[_co,wE]at h2;split at h2
   ·rename_i hG;exact⟨(ok H Y2 s2 stp2 hG _).2 (_h _),okR.here (b:=FlV.nx O) (Q:=z35 D) h2 stp2.rep en2⟩
   ·exact h2.elim
end
end Dd
namespace Zz
def Sit(b:Bool)(h:Heap)(it l:Addr)(k:Nat):Prop:=match b with
 | true=>h.IsListIter it l k | false=>h.IsTupleIter it l k
def Sco(b:Bool)(h:Heap)(l:Addr)(xs:Array Value):Prop:=match b with
 | true=>h.IsList l xs | false=>h.IsTuple l xs
theorem Sit.to{b:Bool}{h h':Heap}{it l:Addr}{k:Nat}(x:Sit b h it l k)(e:∀o,h.get? it=some o->h'.get? it=some o):Sit b h' it l k:=by cases b with
 | true=>obtain⟨o,ho,r⟩:=x;exact⟨o,e _ ho,r⟩ | false=>obtain⟨o,ho,r⟩:=x;exact⟨o,e _ ho,r⟩
theorem Sco.to{b:Bool}{h h':Heap}{l:Addr}{xs:Array Value}(x:Sco b h l xs)(e:∀o,h.get? l=some o->h'.get? l=some o):Sco b h' l xs:=by cases b with
 | true=>obtain⟨o,ho,r⟩:=x;exact⟨o,e _ ho,r⟩ | false=>obtain⟨o,ho,r⟩:=x;exact⟨o,e _ ho,r⟩
theorem Sit.lt{b:Bool}{h:Heap}{it l:Addr}{k:Nat}(x:Sit b h it l k):it<h.objs.size:=by cases b with
 | true=>obtain⟨o,ho,r⟩:=x;exact _l ho | false=>obtain⟨o,ho,r⟩:=x;exact _l ho
theorem Sit.ob{b:Bool}{h:Heap}{it l:Addr}{k:Nat}(x:Sit b h it l k):∃o,h.get? it=some o/\∀v,o.data≠.cell v:=by cases b with
 | true=>obtain⟨o,ho,_,d⟩:=x;exact⟨o,ho,λv z=>by rw[d]at z;cases z⟩ | false=>obtain⟨o,ho,_,d⟩:=x;exact⟨o,ho,λv z=>by rw[d]at z;cases z⟩
section
variable {P:Program}{w:World}{A:Around}{E:Value->Shared->Prop}{s:Shared}
theorem zgK{it l:Addr}{k:Nat}{xs:Array Value}{x:Value}{R:Value->Shared->Prop}(h1:s.heap.IsTupleIter it l k)(h2:s.heap.IsTuple l xs)(e:xs[k]? = some x) (q:∀h',h'.IsTupleIter it l (k+1)->Heap.SameBut it s.heap h'->R x {s with heap:=h'}):wpAny (model P w) A (Builtin.SmallTypes.nextOf (.ref it)) R E s:=by
 obtain⟨o,ho,hc,hd⟩:=id h1;obtain⟨ol,hol,_,nl,hdl⟩:=h2;unfold Builtin.SmallTypes.nextOf;refine _a (_U (name:=Str.ofString "__next__") h1.typeIs _a9 (_I _a9 h1.typeIs F.entry_tuple_iterator_next ?_ (F.args_tuple_iterator_next_1 _)));show wpAny _ _ (field (.ref it) 0 >>= _) _ _ s;refine _a (_ar ho hd (x:=.ref l) rfl ?_);show wpAny _ _ (if (Value.ref l==Value.none)=true then _ else _) _ _ s;rw[_i (show ¬ ((Value.ref l==Value.none)=true) from _R)];show wpAny _ _ (field (.ref it) 1 >>= _) _ _ s;refine _a (_ar ho hd (x:=.int k 0) rfl ?_);show wpAny _ _ (seqItems? (.ref l) >>= _) _ _ s;refine _a (_aP hol hdl ?_);simp only[_aA,e];refine _a (_aU ho hd (by simp) (_b ⟨x,rfl,_b (q _ ?_ (_ah ..))⟩));exact⟨_,_an _ ho (Obj.isFreed_of_fields (Obj.data_mapFields hd _)),(Obj.cls_mapFields ..).trans hc,by rw[Obj.data_mapFields hd];simp[rawInt]⟩
theorem z7W {it l:Addr} {k:Nat} {xs:Array Value} {R:Value->Shared->Prop} (hh:A.handled=none) (h1:s.heap.IsTupleIter it l k) (h2:s.heap.IsTuple l xs) (e:xs[k]? = none) (q:∀h' e,Heap.ExtBut it s.heap h'->(∃o,h'.get? e=some o/\o.cls=.type "StopIteration")->E (.ref e) {s with heap:=h'}):wpAny (model P w) A (Builtin.SmallTypes.nextOf (.ref it)) R E s:=by
 obtain⟨o,ho,hc,hd⟩:=id h1;obtain⟨ol,hol,_,nl,hdl⟩:=h2;unfold Builtin.SmallTypes.nextOf;refine _a (_U (name:=Str.ofString "__next__") h1.typeIs _a9 (_I _a9 h1.typeIs F.entry_tuple_iterator_next ?_ (F.args_tuple_iterator_next_1 _)));show wpAny _ _ (field (.ref it) 0 >>= _) _ _ s;refine _a (_ar ho hd (x:=.ref l) rfl ?_);show wpAny _ _ (if (Value.ref l==Value.none)=true then _ else _) _ _ s;rw[_i (show ¬ ((Value.ref l==Value.none)=true) from _R)];show wpAny _ _ (field (.ref it) 1 >>= _) _ _ s;refine _a (_ar ho hd (x:=.int k 0) rfl ?_);show wpAny _ _ (seqItems? (.ref l) >>= _) _ _ s;refine _a (_aP hol hdl ?_);simp only[_aA,e];refine _a (_cl (_a (_aU ho hd (by simp) ?_)));show wpAny _ _ (newExc (.type "StopIteration") [] >>= _) _ _ _;refine _a ?_;simp only[newExc,newTuple];refine _a (_G ?_ (by size_fits));refine _a (m:=firstArgMember _ _) (_cB (a:=Value.none) (by first | rfl | (simp only[firstArgMember];rfl)) ?_);refine _G ?_ (by size_fits);simp only[raiseNew];refine _a (_dn ?_);first | rw[show A.in1.handled=none from hh] | rw[hh]
 refine _a (_b (wpAny_throw ?_));exact q _ _ (((_ah ..).extBut.push _).push _) ⟨_,_g _ rfl,rfl⟩
theorem nx{b:Bool}{it l:Addr}{k:Nat}{xs:Array Value}{x:Value}{R:Value->Shared->Prop}(h1:Sit b s.heap it l k)(h2:Sco b s.heap l xs)(e:xs[k]? = some x) (q:∀h',Sit b h' it l (k+1)->Heap.SameBut it s.heap h'->R x {s with heap:=h'}):wpAny (model P w) A (Builtin.SmallTypes.nextOf (.ref it)) R E s:=by cases b with
 | true=>exact wpAny_nextOf_list_item h1 h2 e q | false=>exact zgK h1 h2 e q
theorem zdj {b:Bool} {it l:Addr} {k:Nat} {xs:Array Value} {R:Value->Shared->Prop} (hh:A.handled=none) (h1:Sit b s.heap it l k) (h2:Sco b s.heap l xs) (e:xs[k]? = none) (q:∀h' e,Heap.ExtBut it s.heap h'->(∃o,h'.get? e=some o/\o.cls=.type "StopIteration")->E (.ref e) {s with heap:=h'}):wpAny (model P w) A (Builtin.SmallTypes.nextOf (.ref it)) R E s:=by cases b with
 | true=>exact wpAny_nextOf_list_end hh h1 h2 e q | false=>exact z7W hh h1 h2 e q
theorem zw{a:Addr}{h h':Heap}(hs:Heap.SameBut a h h'){b:Addr}{o:Obj}(n:b≠a)(e:h.get? b=some o):h'.get? b=some o:=hs.extBut _ _ n e
theorem zeD {z TI TO i1 i2 l1 l2:Addr} {b1 b2:Bool} {k:Nat} {xs ys:Array Value} {x y a b:Value} {Q:Option Value->Shared->Prop} (D:ZipApart z TI TO i1 i2 l1 l2) (hz:IsZip s.heap z TI TO .none) (hTI:IsPair s.heap TI (.ref i1) (.ref i2)) (hTO:IsPair s.heap TO a b) (h1:Sit b1 s.heap i1 l1 k) (h2:Sit b2 s.heap i2 l2 k) (c1:Sco b1 s.heap l1 xs) (c2:Sco b2 s.heap l2 ys) (ex:xs[k]? = some x) (ey:ys[k]? = some y) (q:∀h',IsZip h' z TI TO (rawInt s.heap.objs.size)->IsPair h' TO x y->Sit b1 h' i1 l1 (k+1)->Sit b2 h' i2 l2 (k+1)->IsPair h' s.heap.objs.size x y->h'.objs.size=s.heap.objs.size+1-> (∀c o,c≠z->c≠TO->c≠i1->c≠i2->s.heap.get? c=some o->h'.get? c=some o)->Q (some (.ref s.heap.objs.size)) {s with heap:=h'}):wpAny (model P w) A (pyNext (.ref z)) Q E s:=by
 have hT:s.TypeIs (.ref z) "zip":=⟨_,hz,rfl⟩;unfold pyNext;refine _a (_bA (_U (name:=Str.ofString "__next__") hT _cK (_I _cK hT F.entry_zip_next (Q:=λv s'=>wpAny (model P w) A (pure (some v)) Q E s') ?_ (F.args_zip_next_1 _))));show wpAny _ _ (field (.ref z) 2 >>= _) _ _ _;refine _a (_ar hz rfl (x:=.bool false) rfl ?_);show wpAny _ _ (field (.ref z) 3 >>= _) _ _ _;refine _a (_ar hz rfl (x:=.ref TI) rfl ?_);refine _a (_aP hTI rfl ?_);show wpAny _ _ (Builtin.SmallTypes.ownedTupleIsFree (.ref z) >>= _) _ _ _;refine _a ?_;unfold Builtin.SmallTypes.ownedTupleIsFree;refine _a (_ar hz rfl (x:=.none) rfl (_b ?_));simp only[_N];refine _a (_cl ?_);refine _a (_ar hz rfl (x:=.ref TO) rfl ?_);refine _a (_ba hz (by simp) λg1 z1 s1=>?_);replace z1:IsZip g1 z TI TO .ellipsis:=z1;refine _a ?_;simp only[List.zipIdx_cons,List.zipIdx_nil,List.forIn_cons,List.forIn_nil];refine _a (_a (_do ?_));show wpAny _ _ (Builtin.SmallTypes.nextOf (.ref i1) >>= _) _ _ _;refine _a (nx (h1.to λo e=>zw s1 D.i1z e) (c1.to λo e=>zw s1 D.l1z e) ex λg2 t2 s2=>_b ?_);have o2:IsPair g2 TO a b:=zw s2 D.TOi1 (zw s1 D.TOz hTO);refine _a (_aP o2 rfl ?_);refine _a (_cC o2 λg3 o3 s3=>?_);replace o3:IsPair g3 TO x b:=o3;refine _a (wpAny_letGo (_b ?_));refine _a (_a (_do ?_));show wpAny _ _ (Builtin.SmallTypes.nextOf (.ref i2) >>= _) _ _ _;refine _a (nx (h2.to λo e=>zw s3 D.TOi2.symm (zw s2 D.i12.symm (zw s1 D.i2z e))) (c2.to λo e=>zw s3 D.l2TO (zw s2 D.l2i1 (zw s1 D.l2z e))) ey λg4 t4 s4=>_b ?_);have o4:IsPair g4 TO x b:=zw s4 D.TOi2 o3;refine _a (_aP o4 rfl ?_);refine _a (_cC o4 λg5 o5 s5=>?_);replace o5:IsPair g5 TO x y:=o5;refine _a (wpAny_letGo (_b (_b ?_)));refine _a (_aP o5 rfl ?_);refine _a (wpAny_newTuple ?_);have sz:g5.objs.size=s.heap.objs.size:=by rw[s5.1,s4.1,s3.1,s2.1,s1.1]
 have z5:IsZip g5 z TI TO .ellipsis:=zw s5 D.TOz.symm (zw s4 D.i2z.symm (zw s3 D.TOz.symm (zw s2 D.i1z.symm z1)));have k5:∀c o,c≠z->c≠TO->c≠i1->c≠i2->s.heap.get? c=some o->g5.get? c=some o:=λc o n1 n2 n3 n4 e=>zw s5 n2 (zw s4 n4 (zw s3 n2 (zw s2 n3 (zw s1 n1 e))));have t5:Sit b1 g5 i1 l1 (k+1):=t2.to λo e=>zw s5 D.TOi1.symm (zw s4 D.i12 (zw s3 D.TOi1.symm e));have u5:Sit b2 g5 i2 l2 (k+1):=t4.to λo e=>zw s5 D.TOi2.symm e;have zl:z<g5.objs.size:=_l z5;show wpAny _ _ (Builtin.SmallTypes.ownedTupleHandOut (.ref z) (.ref g5.objs.size) >>= _) _ _ _;refine _a ?_;unfold Builtin.SmallTypes.ownedTupleHandOut;have z6:IsZip (g5.push {cls:=.type "tuple",data:=.seq #[x,y]}) z TI TO .ellipsis:=_c _ z5;refine _a (_ba z6 (by simp) λg7 z7 s7=>?_);replace z7:IsZip g7 z TI TO (rawInt g5.objs.size):=z7;refine _ba z7 (by simp) λg8 z8 s8=>?_;replace z8:IsZip g8 z TI TO (rawInt g5.objs.size):=z8;have up:∀c o,c≠z->g5.get? c=some o->g8.get? c=some o:=λc o n e=>zw s8 n (zw s7 n (_c _ e));have p8:IsPair g8 g5.objs.size x y:=zw s8 (_b5 zl) (zw s7 (_b5 zl) (_g _ rfl));have e8:g8.objs.size=g5.objs.size+1:=by rw[s8.1,s7.1,_as]
 rw[sz]at z8 p8 e8;refine _b ⟨_,rfl,_b ?_⟩;show Q (some (.ref g5.objs.size)) _;rw[sz];exact q g8 z8 (up _ _ D.TOz o5) (t5.to λo e=>up _ o D.i1z e) (u5.to λo e=>up _ o D.i2z e) p8 e8 λc o n1 n2 n3 n4 e=>up c o n1 (k5 c o n1 n2 n3 n4 e)
theorem zih {z TI TO i1 i2 l1 l2:Addr} {b1 b2:Bool} {k:Nat} {xs ys:Array Value} {a b:Value} {Q:Option Value->Shared->Prop} (hh:A.handled=none) (D:ZipApart z TI TO i1 i2 l1 l2) (hz:IsZip s.heap z TI TO .none) (hTI:IsPair s.heap TI (.ref i1) (.ref i2)) (hTO:IsPair s.heap TO a b) (h1:Sit b1 s.heap i1 l1 k) (h2:Sit b2 s.heap i2 l2 k) (c1:Sco b1 s.heap l1 xs) (c2:Sco b2 s.heap l2 ys) (en:xs[k]? = none\/ys[k]? = none) (q:∀h',(∀c o,c≠z->c≠TO->c≠i1->c≠i2->s.heap.get? c=some o->h'.get? c=some o)->Q none {s with heap:=h'}):wpAny (model P w) A (pyNext (.ref z)) Q E s:=by
 have hT:s.TypeIs (.ref z) "zip":=⟨_,hz,rfl⟩;have fin:∀h' e,(∀c o,c≠z->c≠TO->c≠i1->c≠i2->s.heap.get? c=some o->h'.get? c=some o)->(∃o,h'.get? e=some o/\o.cls=.type "StopIteration")-> wpAny (model P w) A (isInstance (.ref e) (.type "StopIteration") >>= λb=>if b=true then (pure none:Sem (Option Value)) else throw (.ref e)) Q E {s with heap:=h'}:=λh' e hk he=>by
  obtain⟨o,ho,hc⟩:=he;refine _a (_bI (T:="StopIteration") (b:=true) ⟨o,ho,hc⟩ _cY ?_);exact _b (q _ hk)
 unfold pyNext;refine _a (_bA (_U (name:=Str.ofString "__next__") hT _cK (_I _cK hT F.entry_zip_next ?_ (F.args_zip_next_1 _))));show wpAny _ _ (field (.ref z) 2 >>= _) _ _ _;refine _a (_ar hz rfl (x:=.bool false) rfl ?_);show wpAny _ _ (field (.ref z) 3 >>= _) _ _ _;refine _a (_ar hz rfl (x:=.ref TI) rfl ?_);refine _a (_aP hTI rfl ?_);show wpAny _ _ (Builtin.SmallTypes.ownedTupleIsFree (.ref z) >>= _) _ _ _;refine _a ?_;unfold Builtin.SmallTypes.ownedTupleIsFree;refine _a (_ar hz rfl (x:=.none) rfl (_b ?_));simp only[_N];refine _a (_cl ?_);refine _a (_ar hz rfl (x:=.ref TO) rfl ?_);refine _a (_ba hz (by simp) λg1 z1 s1=>?_);replace z1:IsZip g1 z TI TO .ellipsis:=z1;refine _a ?_;simp only[List.zipIdx_cons,List.zipIdx_nil,List.forIn_cons,List.forIn_nil];refine _a (_a (_do ?_));show wpAny _ _ (Builtin.SmallTypes.nextOf (.ref i1) >>= _) _ _ _;cases ex:xs[k]? with
 | none=>
  refine _a (zdj hh (h1.to λo e=>zw s1 D.i1z e) (c1.to λo e=>zw s1 D.l1z e) ex λg2 e s2 he=>?_);obtain⟨oe,hoe,hce⟩:=he;have z2:IsZip g2 z TI TO .ellipsis:=s2 _ _ D.i1z.symm z1;have ez:e≠z:=λt=>by subst t;rw[z2]at hoe;cases hoe;simp at hce
  exact _ba z2 (by simp) λg3 _ s3=>fin g3 e (λc o n1 _ n3 _ t=>zw s3 n1 (s2 _ _ n3 (zw s1 n1 t))) ⟨oe,zw s3 ez hoe,hce⟩ | some x=>
  have ey:ys[k]? = none:=by rcases en with t | t;rw[ex]at t;cases t;exact t
  refine _a (nx (h1.to λo e=>zw s1 D.i1z e) (c1.to λo e=>zw s1 D.l1z e) ex λg2 t2 s2=>_b ?_);have o2:IsPair g2 TO a b:=zw s2 D.TOi1 (zw s1 D.TOz hTO);refine _a (_aP o2 rfl ?_);refine _a (_cC o2 λg3 o3 s3=>?_);refine _a (wpAny_letGo (_b ?_));refine _a (_a (_do ?_));show wpAny _ _ (Builtin.SmallTypes.nextOf (.ref i2) >>= _) _ _ _;refine _a (zdj hh (h2.to λo e=>zw s3 D.TOi2.symm (zw s2 D.i12.symm (zw s1 D.i2z e))) (c2.to λo e=>zw s3 D.l2TO (zw s2 D.l2i1 (zw s1 D.l2z e))) ey λg4 e s4 he=>?_);obtain⟨oe,hoe,hce⟩:=he;have z4:IsZip g4 z TI TO .ellipsis:=s4 _ _ D.i2z.symm (zw s3 D.TOz.symm (zw s2 D.i1z.symm z1));have ez:e≠z:=λt=>by subst t;rw[z4]at hoe;cases hoe;simp at hce
  exact _ba z4 (by simp) λg5 _ s5=>fin g5 e (λc o n1 n2 n3 n4 t=>zw s5 n1 (s4 _ _ n4 (zw s3 n2 (zw s2 n3 (zw s1 n1 t))))) ⟨oe,zw s5 ez hoe,hce⟩
end
def itO(b:Bool)(l:Addr):Obj:=match b with
 | true=>{cls:=.type "list_iterator",data:=.fields #[.ref l,.int 0 0]} | false=>{cls:=.type "tuple_iterator",data:=.fields #[.ref l,.int 0 0]}
theorem z6T{b:Bool}{h:Heap}{a l:Addr}(e:h.get? a=some (itO b l)):Sit b h a l 0:=by cases b with
 | true=>exact⟨_,e,rfl,rfl⟩ | false=>exact⟨_,e,rfl,rfl⟩
theorem z3i(b:Bool)(l:Addr):(itO b l).isFreed=false:=by cases b<;>rfl
section
variable {P:Program}{w:World}{A:Around}{E:Value->Shared->Prop}{s:Shared}
theorem z9b {b:Bool} {l:Addr} {xs:Array Value} {Q:Value->Shared->Prop} (h:Sco b s.heap l xs) (q:Q (.ref s.heap.objs.size) {s with heap:=s.heap.push (itO b l)}):wpAny (model P w) A (pyIter (.ref l)) Q E s:=by cases b with
 | true=>exact _di h q | false=>exact wpAny_pyIter_tuple h q
end
abbrev G1(b1:Bool)(h:Heap)(l1:Addr):Heap:=h.push (itO b1 l1)
abbrev G2(b1 b2:Bool)(h:Heap)(l1 l2:Addr):Heap:=(G1 b1 h l1).push (itO b2 l2)
abbrev G3(b1 b2:Bool)(h:Heap)(l1 l2:Addr):Heap:=(G2 b1 b2 h l1 l2).push {cls:=.type "tuple",data:=.seq #[.ref h.objs.size,.ref (G1 b1 h l1).objs.size]}
abbrev G4(b1 b2:Bool)(h:Heap)(l1 l2:Addr):Heap:=(G3 b1 b2 h l1 l2).push {cls:=.type "tuple",data:=.seq #[.none,.none]}
abbrev G5(b1 b2:Bool)(h:Heap)(l1 l2:Addr):Heap:=(G4 b1 b2 h l1 l2).push {cls:=.type "zip",data:=.fields #[.none,.bool false,.bool false,.ref (G2 b1 b2 h l1 l2).objs.size,.ref (G3 b1 b2 h l1 l2).objs.size]}
theorem zb9 (b1 b2:Bool) (l1 l2:Addr) (xs ys:Array Value): Meets (Builtin.«zip.__new__» ⟨[.type "zip",.ref l1,.ref l2],[]⟩) (λ_ R s=>Sco b1 s.heap l1 xs/\Sco b2 s.heap l2 ys/\R (.ok (.ret (.ref (G4 b1 b2 s.heap l1 l2).objs.size))) {s with heap:=G5 b1 b2 s.heap l1 l2}):= .of_wp λprog w A R s h=>by
  obtain⟨hp,g,d,tk,os⟩:=s;obtain⟨c1,c2,h⟩:=h;have hsub:=sub_zip;have q1:Sco b1 (Shared.heap ⟨hp,g,d,tk,os⟩) l1 xs:=c1;have q2:Sco b2 (Shared.heap ⟨hp.push (itO b1 l1),g,d,tk,os⟩) l2 ys:=c2.to λo e=>_c _ e;wp_walk using z9b q1,z9b q2;exact⟨_,rfl,h⟩
section
variable {P:Program}{w:World}{A:Around}{E:Value->Shared->Prop}{s:Shared}
theorem zcD {b1 b2:Bool} {l1 l2:Addr} {xs ys:Array Value} {Q:Value->Shared->Prop} (c1:Sco b1 s.heap l1 xs) (c2:Sco b2 s.heap l2 ys) (h:∀h',IsZip h' (s.heap.objs.size+4) (s.heap.objs.size+2) (s.heap.objs.size+3) .none->IsPair h' (s.heap.objs.size+2) (.ref s.heap.objs.size) (.ref (s.heap.objs.size+1))-> IsPair h' (s.heap.objs.size+3) .none .none->Sit b1 h' s.heap.objs.size l1 0->Sit b2 h' (s.heap.objs.size+1) l2 0->(∀c o,s.heap.get? c=some o->h'.get? c=some o)->Q (.ref (s.heap.objs.size+4)) {s with heap:=h'}): wpAny (model P w) A (call (.type "zip") [.ref l1,.ref l2]) Q E s:=by
 refine callType_new F.called_zip (by decide) (F.typeCall_zip_2 _ _) (F.newCall_zip_2 _ _) (λobj=>F.args_object_init_3 obj _ _) F.entry_zip_new (zb9 b1 b2 l1 l2 xs ys) ⟨c1,c2,?_⟩;have z1:(G1 b1 s.heap l1).objs.size=s.heap.objs.size+1:=_as ..;have z2:(G2 b1 b2 s.heap l1 l2).objs.size=s.heap.objs.size+2:=by rw[_as,z1]
 have z3:(G3 b1 b2 s.heap l1 l2).objs.size=s.heap.objs.size+3:=by rw[_as,z2]
 have z4:(G4 b1 b2 s.heap l1 l2).objs.size=s.heap.objs.size+4:=by rw[_as,z3]
 have up:∀{h:Heap} {o:Obj} {c:Addr} {u:Obj},h.get? c=some u->(h.push o).get? c=some u:=λe=>_c _ e;have g5:(G5 b1 b2 s.heap l1 l2).get? (G4 b1 b2 s.heap l1 l2).objs.size=some _:=_g _ rfl;have g4:(G5 b1 b2 s.heap l1 l2).get? (G3 b1 b2 s.heap l1 l2).objs.size=some _:=up (_g _ rfl);have g3:(G5 b1 b2 s.heap l1 l2).get? (G2 b1 b2 s.heap l1 l2).objs.size=some _:=up (up (_g _ rfl));have g2:(G5 b1 b2 s.heap l1 l2).get? (G1 b1 s.heap l1).objs.size=some (itO b2 l2):=up (up (up (_g _ (z3i b2 l2))));have g1:(G5 b1 b2 s.heap l1 l2).get? s.heap.objs.size=some (itO b1 l1):=up (up (up (up (_g _ (z3i b1 l1)))));show _/\_;rw[z2,z3,z4]at g5;rw[z1,z2]at g3;rw[z3]at g4;rw[z1]at g2;rw[z4];exact⟨⟨_,g5,rfl⟩,h _ g5 g3 g4 (z6T g1) (z6T g2) λc o e=>up (up (up (up (up e))))⟩
end
end Zz
namespace L2
open Zz
def Sq(b:Bool)(K:W.Frag)(H:Hp)(a:Addr)(xs:List V):Prop:=match b with
 | true=>SqL K H a xs | false=>SqT K H a xs
section
variable {X:Cx}{pins:List (Addr×Obj)}{O:St}{H:Hp}{s:Shared}{h':Heap}
theorem Inv.sq{b:Bool}{a:Addr}{xs:List V}(I:Inv X pins O H s)(h:Sq b X.K H a xs):∃its:List Value,yd xs its/\Sco b s.heap a its.toArray:=by cases b with
 | true=>obtain⟨its,r,p,_⟩:=I.list h;exact⟨its,r,p.isList⟩ | false=>obtain⟨its,r,p,_⟩:=I.tuple h;exact⟨its,r,p⟩
theorem Inv.sq_inj{b:Bool}{a:Addr}{xs ys:List V}(I:Inv X pins O H s)(h:Sq b X.K H a xs)(h':Sq b X.K H a ys):xs=ys:=by cases b with
 | true=>exact I.list_inj h h' | false=>exact I.tuple_inj h h'
theorem Inv.turnedL {t':Nat} {ch:List Addr} (I:Inv X pins O H s) (k:∀b o,b∉ch->s.heap.get? b=some o->h'.get? b=some o) (f:∀b∈ch,z2a X pins H b):Inv X pins O H {s with heap:=h',toks:=t'}:=by
 have nit:∀b u,H b=some u->b∉ch:=λb u e z=>by rw[(f b z).1]at e;cases e
 refine I.step (g':=s.gens) (d':=s.drawn) (ch:=ch) (λb hb=>⟨(f b hb).2.2.2.1,(f b hb).2.1,(f b hb).2.2.2.2.1,(f b hb).2.2.2.2.2⟩) (λb o _ _ hc e _=>k b o hc e) (λb o _ _ hc e _=>⟨o.slots,k b o hc e⟩) (λ_ _ _ _ n=>n) (λb o hc e=>⟨o,k b o hc e⟩) (λ_ _ e=>e) (λ_ _ _ e=>e) (λb ps e=>⟨#[],by rw[e];simp⟩) (λm hm=>?_) (λb u e=>?_) I.bare
 ·obtain⟨o,es,ep,ho,r⟩:=hm;exact⟨o,es,ep,k _ o (λz=>(f _ z).2.1 rfl) ho,r⟩
 ·refine (I.hok b u e).stay (λc v hc q=>k c v ?_ q) (λ_ q=>q) λ_ _ q=>q;rcases hc with z | z;·rw[z];exact nit b u e
  ·exact nit c _ z
end
def Itz(K:W.Frag)(b1 b2:Bool)(l1 l2:Addr):It:= ⟨λi H=>∃xs ys x y,Sq b1 K H l1 xs/\Sq b2 K H l2 ys/\xs[i]? = some x/\ys[i]? = some y, λi H v H'=>∃T x y,H T=none/\v=.ref T/\H'=upd H T (.tup [x,y])/\(∀xs,Sq b1 K H l1 xs->xs[i]? = some x)/\∀ys,Sq b2 K H l2 ys->ys[i]? = some y, λi H=>∃xs ys,Sq b1 K H l1 xs/\Sq b2 K H l2 ys/\(xs.length<=i\/ys.length<=i)⟩
theorem zcx {P:Program} {w:World} {K:W.Frag} {elts:List Expr} {kt:Nat} {tp:Pos} {b1 b2:Bool} {z TI TO i1 i2 l1 l2:Addr} (D:ZipApart z TI TO i1 i2 l1 l2): zbX P w K (.Tuple elts kt tp) (Itz K b1 b2 l1 l2) [z,TI,TO,i1,i2] z (λi h=>IsZip h z TI TO .none/\IsPair h TI (.ref i1) (.ref i2)/\(∃a b,IsPair h TO a b)/\Sit b1 h i1 l1 i/\Sit b2 h i2 l2 i) where
 mem:=by simp
 obj:=λi h ⟨hz,hTI,⟨a,b,hTO⟩,h1,h2⟩ c hc=>by
  have hc':c=z\/c=TI\/c=TO\/c=i1\/c=i2:=by simpa using hc
  rcases hc' with rfl | rfl | rfl | rfl | rfl;·exact⟨_,hz,λv e=>by simp at e⟩
  ·exact⟨_,hTI,λv e=>by simp at e⟩
  ·exact⟨_,hTO,λv e=>by simp at e⟩
  ·exact h1.ob
  ·exact h2.ob
 keep:=λi h h' ⟨hz,hTI,⟨a,b,hTO⟩,h1,h2⟩ k=>⟨k z (by simp) _ hz,k TI (by simp) _ hTI,⟨a,b,k TO (by simp) _ hTO⟩,h1.to λo e=>k i1 (by simp) o e,h2.to λo e=>k i2 (by simp) o e⟩;item:=by
  intro X hP hw hK hc i pins s O H E I hf ⟨hz,hTI,⟨a,b,hTO⟩,h1,h2⟩ ⟨xs,ys,x,y,qx,qy,ex,ey⟩;subst hP hw hK;obtain⟨ix,rx,cx⟩:=I.sq qx;obtain⟨iy,ry,cy⟩:=I.sq qy;obtain⟨u,hu,ru⟩:=rx.get ex;obtain⟨v,hv,rv⟩:=ry.get ey;refine zeD D hz hTI hTO h1 h2 cx cy (x:=u) (y:=v) (by simpa using hu) (by simpa using hv) λg a1 a2 a3 a4 a5 a6 hk=>⟨_,rfl,?_⟩;have kk:∀c o,c∉[z,TO,i1,i2]->s.heap.get? c=some o->g.get? c=some o:=λc o n e=>hk c o (λt=>n (by simp[t])) (λt=>n (by simp[t])) (λt=>n (by simp[t])) (λt=>n (by simp[t])) e;have sub:∀c∈[z,TO,i1,i2],c∈[z,TI,TO,i1,i2]:=λc hc=>by
   have:c=z\/c=TO\/c=i1\/c=i2:=by simpa using hc
   rcases this with rfl | rfl | rfl | rfl<;>simp
  have I1:Inv X pins O H {s with heap:=g}:=I.turnedL (t':=s.toks) kk λc hc=>hf c (sub c hc);refine wpAny_letOwnedTupleGo_zip a1 λg2 z2 s2=>?_;obtain⟨f0,f1,f2,f3,f4,f5⟩:=hf z (by simp);have I2:Inv X pins O H {s with heap:=g2}:=I1.turned (t':=s.toks) (λc o n e=>zw s2 n e) f0 f1 f3 f4 f5;have new:z2a X pins H s.heap.objs.size:=I.fpOk (_h _) (I.hok.fresh (_h _));have ne:∀{c:Addr} {o:Obj},s.heap.get? c=some o->c≠s.heap.objs.size:=λe=>_t (_l e);have p2:IsPair g2 s.heap.objs.size u v:=zw s2 (ne hz).symm a5;refine⟨.ref s.heap.objs.size,upd H s.heap.objs.size (.tup [x,y]),I2.track new ⟨?_,[u,v],.cons ru (.cons rv .nil),⟨_,p2,rfl,rfl,_,rfl⟩⟩,rfl,⟨_,x,y,new.1,rfl,rfl,λzs qz=>?_,λzs qz=>?_⟩,⟨z2,?_,⟨_,_,zw s2 D.TOz a2⟩,a3.to λo e=>zw s2 D.i1z e,a4.to λo e=>zw s2 D.i2z e⟩,λc hc=>?_⟩;·show 2<=sizeLine;decide
  ·rw[I.sq_inj qz qx];exact ex
  ·rw[I.sq_inj qz qy];exact ey
  ·exact zw s2 D.TIz (hk TI _ D.TIz D.TITO D.TIi1 D.TIi2 hTI)
  ·have hc':c=z\/c=TI\/c=TO\/c=i1\/c=i2:=by simpa using hc
   have:c≠s.heap.objs.size:=by
    rcases hc' with rfl | rfl | rfl | rfl | rfl;·exact ne hz
    ·exact ne hTI
    ·exact ne hTO
    ·exact _t h1.lt
    ·exact _t h2.lt
   rw[zn this];exact (hf c hc).1
 done:=by
  intro X hP hw hK hc i pins s O H E I hf ⟨hz,hTI,⟨a,b,hTO⟩,h1,h2⟩ ⟨xs,ys,qx,qy,hl⟩;subst hP hw hK;obtain⟨ix,rx,cx⟩:=I.sq qx;obtain⟨iy,ry,cy⟩:=I.sq qy;have lx:=rx.length;have ly:=ry.length;refine zih (I.ok.hd hc) D hz hTI hTO h1 h2 cx cy ?_ λg hk=>⟨rfl,?_⟩
  ·rcases hl with hl | hl;·exact .inl (by simp;omega)
   ·exact .inr (by simp;omega)
  ·exact I.turnedL (t':=s.toks) (ch:=[z,TO,i1,i2]) (λc o n e=>hk c o (λt=>n (by simp[t])) (λt=>n (by simp[t])) (λt=>n (by simp[t])) (λt=>n (by simp[t])) e) λc hc=>hf c (by
    have:c=z\/c=TO\/c=i1\/c=i2:=by simpa using hc
    rcases this with rfl | rfl | rfl | rfl<;>simp)
 self:=λ_ _ _ _ _ st h=>wpAny_pyIter_zip st.1 h
theorem zis{X:Cx}{elts:List Expr}{kt:Nat}{tp:Pos}{a b:Expr}{ta:TA}{p pos:Pos}(hg:Gl X "zip")(hm:X.mg "zip"=none)(ha:PA X [a,b] ta)(hs:starEach [a,b] X.env=(false,eval a X.env)::starEach [b] X.env:=by rfl)(hpl:(backTo pos (starEach [b] X.env)).any (·.1)=false:=by rfl): PI X (.Tuple elts kt tp) (.Call (.Name "zip" p) [a,b] [] pos) (λO H R=>ta O H λvs H1=>∃l1 l2 b1 b2,vs=[.ref l1,.ref l2]/\(∃xs,Sq b1 X.K H1 l1 xs)/\(∃ys,Sq b2 X.K H1 l2 ys)/\R (Itz X.K b1 b2 l1 l2) H1):=by
 intro pins s O H R I h;refine _aI (kQ I hg hm (u:=.type "zip") (by first | exact PySem.boot_zip | rfl | decide +kernel) ?_ (by decide) (by decide));refine _ao (thn (ha pos pins s O H _ I h) λus s1 ⟨vs,H1,I1,r1,q1⟩=>?_) hs hpl;obtain⟨l1,l2,b1,b2,rfl,⟨xs,qx⟩,⟨ys,qy⟩,q⟩:=q1;cases r1 with | cons r1 r2=> cases r2 with | cons r2 r3=>
   cases r3;cases r1;cases r2;obtain⟨ix,rx,cx⟩:=I1.sq qx;obtain⟨iy,ry,cy⟩:=I1.sq qy;have lt1:l1<s1.heap.objs.size:=by cases b1 with
    | true=>obtain⟨o,e,_⟩:=cx;exact _l e | false=>obtain⟨o,e,_⟩:=cx;exact _l e
   have lt2:l2<s1.heap.objs.size:=by cases b2 with
    | true=>obtain⟨o,e,_⟩:=cy;exact _l e | false=>obtain⟨o,e,_⟩:=cy;exact _l e
   have D:ZipApart (s1.heap.objs.size+4) (s1.heap.objs.size+2) (s1.heap.objs.size+3) s1.heap.objs.size (s1.heap.objs.size+1) l1 l2:=by
    have e1:∀k:Nat,l1≠s1.heap.objs.size+k:=λk=>_t (_v lt1 (_dA _ _));have e2:∀k:Nat,l2≠s1.heap.objs.size+k:=λk=>_t (_v lt2 (_dA _ _));have nk:∀(m j k:Nat),j≠k->m+j≠m+k:=λm j k h z=>h (Nat.add_left_cancel z);exact⟨nk _ 2 4 (by decide),nk _ 3 4 (by decide),nk _ 0 4 (by decide),nk _ 1 4 (by decide),nk _ 2 3 (by decide),nk _ 2 0 (by decide),nk _ 2 1 (by decide),nk _ 3 0 (by decide),nk _ 3 1 (by decide),nk _ 0 1 (by decide),e1 4,e1 3,e1 0,e1 1,e2 4,e2 3,e2 0,e2 1⟩
   refine zcD cx cy λg hz hTI hTO h1 h2 hk=>?_;refine wpAny_pyIter_zip hz ?_;refine⟨_,_,_,_,H1,rfl,I1.kept (t':=s1.toks) hk,zcx D,⟨hz,hTI,⟨_,_,hTO⟩,h1,h2⟩,λc hc=>?_,q⟩;have hc':s1.heap.objs.size<=c:=by
    have:c=s1.heap.objs.size+4\/c=s1.heap.objs.size+2\/c=s1.heap.objs.size+3\/c=s1.heap.objs.size\/c=s1.heap.objs.size+1:=by simpa using hc
    rcases this with rfl | rfl | rfl | rfl | rfl<;>first | exact _h _ | exact _dA _ _
   exact I1.fpOk hc' (I1.hok.fresh hc')
end L2
namespace Zz
section
variable {P:Program}{w:World}{A:Around}{E:Value->Shared->Prop}{s:Shared}
theorem z6l {b : Bool} {l : Addr} {its : Array Value} {Q : Value → Shared → Prop} (hh : A.handled = none) (h : Sco b s.heap l its) (k : ∀s2 : Shared, s2 = { s with heap := s.heap.push (itO b l) } → ∀St : Nat → Heap → Prop, Walks P w A s.heap.objs.size [s.heap.objs.size, l] [s.heap.objs.size] its.size (λi v => its[i]? = some v) St → St 0 s2.heap → (∀c ∈ [s.heap.objs.size, l], c < s2.heap.objs.size) → (∀h' : Heap, (∀c o, c ∉ [s.heap.objs.size] → s2.heap.get? c = some o → h'.get? c = some o) → ∀c o, s.heap.get? c = some o → h'.get? c = some o) → Q (.ref s.heap.objs.size) s2) : wpAny (model P w) A (pyIter (.ref l)) Q E s := by
  have lt : l < s.heap.objs.size := by cases b with
    | true => obtain⟨o, e, _⟩ := h; exact _l e | false => obtain⟨o, e, _⟩ := h; exact _l e
  have ne : l ≠ s.heap.objs.size := _t lt;have bd : ∀c ∈ [s.heap.objs.size, l], c < (s.heap.push (itO b l)).objs.size := λc hc => by
    have : c = s.heap.objs.size ∨ c = l := by simpa using hc
    rw[_as];rcases this with rfl | rfl;· exact _aR _
    · exact _aa lt
  have old : ∀h' : Heap, (∀c o, c ∉ [s.heap.objs.size] → (s.heap.push (itO b l)).get? c = some o → h'.get? c = some o) → ∀c o, s.heap.get? c = some o → h'.get? c = some o := λh' hk c o e =>
    hk c o (fun z => by have : c = s.heap.objs.size := by simpa using z
                        exact absurd (this ▸ _l e) (_aN _)) (_c _ e);refine z9b h ?_;have g : (s.heap.push (itO b l)).get? s.heap.objs.size = some (itO b l) := _g _ (z3i b l);cases b with
  | true => exact k _ rfl _ (Walks.list hh _ l ne its) ⟨z6T (b := true) g, Sco.to (b := true) h λo e => _c _ e⟩ bd old | false => exact k _ rfl _ (Walks.tuple hh _ l ne its) ⟨z6T (b := false) g, Sco.to (b := false) h λo e => _c _ e⟩ bd old
end
end Zz
namespace L2
open Zz
def maxL:List Int->Int
 | []=>0 | x::xs=>xs.foldl max x
def minL:List Int->Int
 | []=>0 | x::xs=>xs.foldl min x
theorem wQ:∀(xs:List Int)(x:Int),x<=xs.foldl max x/\(∀y∈xs,y<=xs.foldl max x)/\(xs.foldl max x=x\/xs.foldl max x∈xs)
 | [],x=>⟨Int.le_refl _,by simp,.inl rfl⟩ | y::ys,x=>by
  obtain⟨h1,h2,h3⟩:=wQ ys (max x y);refine⟨by simp only[_a1];omega,λz hz=>?_,?_⟩
  ·simp only[_a1];rcases _p.mp hz with rfl | hz;·omega
   ·exact h2 z hz
  ·simp only[_a1];rcases h3 with h3 | h3
   ·rw[h3];rcases Int.le_total x y with h | h;·exact .inr (by rw[Int.max_eq_right h];simp)
    ·exact .inl (Int.max_eq_left h)
   ·exact .inr (_C _ h3)
theorem wR:∀(xs:List Int)(x:Int),xs.foldl min x<=x/\(∀y∈xs,xs.foldl min x<=y)/\(xs.foldl min x=x\/xs.foldl min x∈xs)
 | [],x=>⟨Int.le_refl _,by simp,.inl rfl⟩ | y::ys,x=>by
  obtain⟨h1,h2,h3⟩:=wR ys (min x y);refine⟨by simp only[_a1];omega,λz hz=>?_,?_⟩
  ·simp only[_a1];rcases _p.mp hz with rfl | hz;·omega
   ·exact h2 z hz
  ·simp only[_a1];rcases h3 with h3 | h3
   ·rw[h3];rcases Int.le_total x y with h | h;·exact .inl (Int.min_eq_left h)
    ·exact .inr (by rw[Int.min_eq_right h];simp)
   ·exact .inr (_C _ h3)
theorem maxL_ge{xs:List Int}:∀y∈xs,y<=maxL xs:=by cases xs with
 | nil=>simp | cons x xs=>intro y hy;rcases _p.mp hy with rfl | hy;exact (wQ xs y).1;exact (wQ xs x).2.1 y hy
theorem maxL_mem{xs:List Int}(h:xs≠[]):maxL xs∈xs:=by cases xs with
 | nil=>exact absurd rfl h | cons x xs=>rcases (wQ xs x).2.2 with e | e;exact (show xs.foldl max x∈x::xs by rw[e];simp);exact _C _ e
theorem minL_le{xs:List Int}:∀y∈xs,minL xs<=y:=by cases xs with
 | nil=>simp | cons x xs=>intro y hy;rcases _p.mp hy with rfl | hy;exact (wR xs y).1;exact (wR xs x).2.1 y hy
theorem minL_mem{xs:List Int}(h:xs≠[]):minL xs∈xs:=by cases xs with
 | nil=>exact absurd rfl h | cons x xs=>rcases (wR xs x).2.2 with e | e;exact (show xs.foldl min x∈x::xs by rw[e];simp);exact _C _ e
section
variable {X:Cx}
theorem z3x {ns:List Int} {its:List Value} (r:yd (ns.map V.int) its) {i:Nat} {v:Value} (e:its.toArray[i]? = some v):∃t,v=.int (ns.getD i 0) t/\i<ns.length:=by
 have e':its[i]? = some v:=by simpa using e
 have hl:=r.length;have hi:i<ns.length:=by
  have:=(_d.mp e').1;simp at hl;omega
 obtain⟨u,hu,ru⟩:=r.get (i:=i) (x:=V.int ns[i]) (by simp[hi]);rw[e']at hu;cases hu;obtain⟨t,rfl⟩:=ru;exact⟨t,by simp[List.getD,hi],hi⟩
theorem getD_in{ns:List Int}{i:Nat}(h:i<ns.length):ns.getD i 0∈ns:=by
 rw[List.getD,_e h];exact _cp _
theorem zb2 (hc:X.calm=true):yN X (.builtin "max") (λxs H Q=>∃b p ns,xs=[.ref p]/\Sq b X.K H p (ns.map V.int)/\ns≠[]/\Q (.int (maxL ns)) H):=by
 intro pins s O H xs us Q I r h;obtain⟨b,p,ns,rfl,hq,hne,q⟩:=h;obtain⟨u,rfl,ru⟩:=vals1 r;cases ru;obtain⟨its,rv,co⟩:=I.sq hq;have hl:its.length=ns.length:=by have:=rv.length;simp at this;omega
 have hn:0<ns.length:=_cQ.mpr hne;refine call_max_walk (z6l (I.ok.hd hc) co λs2 e2 St W st bd old=>?_);subst e2;refine⟨_,_,_,_,_,_,_,rfl,W,st,bd,by simpa[hl] using hn,CmpOf.ints_gt (λi=>ns.getD i 0) (λi v e=>let ⟨t,e1,_⟩:=z3x rv e;⟨t,e1⟩),λv h' tk e hk=>?_⟩;obtain⟨t,e1,lt⟩:=z3x rv e;obtain⟨h1,h2⟩:=argBest_gt (λi=>ns.getD i 0) (its.toArray.size-1);have em:ns.getD (argBest (λi j=>decide (ns.getD i 0 > ns.getD j 0)) (its.toArray.size-1)) 0=maxL ns:=by
  refine _cL (maxL_ge _ ?_) ?_;·exact getD_in lt
  ·obtain⟨j,hj,ej⟩:=_z.mp (maxL_mem hne);have:=h2 j (by simp[hl];omega);simp only[List.getD,_e hj,_au,ej]at this;simpa[List.getD] using this
 rw[e1,em];exact⟨.int (maxL ns),H,I.kept (t':=tk) (old h' hk),⟨t,rfl⟩,q⟩
theorem z8V (hc:X.calm=true):yN X (.builtin "min") (λxs H Q=>∃b p ns,xs=[.ref p]/\Sq b X.K H p (ns.map V.int)/\ns≠[]/\Q (.int (minL ns)) H):=by
 intro pins s O H xs us Q I r h;obtain⟨b,p,ns,rfl,hq,hne,q⟩:=h;obtain⟨u,rfl,ru⟩:=vals1 r;cases ru;obtain⟨its,rv,co⟩:=I.sq hq;have hl:its.length=ns.length:=by have:=rv.length;simp at this;omega
 have hn:0<ns.length:=_cQ.mpr hne;refine call_min_walk (z6l (I.ok.hd hc) co λs2 e2 St W st bd old=>?_);subst e2;refine⟨_,_,_,_,_,_,_,rfl,W,st,bd,by simpa[hl] using hn,CmpOf.ints_lt (λi=>ns.getD i 0) (λi v e=>let ⟨t,e1,_⟩:=z3x rv e;⟨t,e1⟩),λv h' tk e hk=>?_⟩;obtain⟨t,e1,lt⟩:=z3x rv e;obtain⟨h1,h2⟩:=argBest_lt (λi=>ns.getD i 0) (its.toArray.size-1);have em:ns.getD (argBest (λi j=>decide (ns.getD i 0<ns.getD j 0)) (its.toArray.size-1)) 0=minL ns:=by
  refine _cL ?_ (minL_le _ ?_)
  ·obtain⟨j,hj,ej⟩:=_z.mp (minL_mem hne);have:=h2 j (by simp[hl];omega);simp only[List.getD,_e hj,_au,ej]at this;simpa[List.getD] using this
  ·exact getD_in lt
 rw[e1,em];exact⟨.int (minL ns),H,I.kept (t':=tk) (old h' hk),⟨t,rfl⟩,q⟩
theorem all_range{bs:List Bool}:(List.range bs.length).all (λi=>bs.getD i false)=bs.all id:=by
 rw[_cM];simp only[_V,_Q,id];constructor
 ·intro h x hx;obtain⟨j,hj,ej⟩:=_z.mp hx;have:=h j hj;simpa[List.getD,hj,ej] using this
 ·intro h i hi;simp only[List.getD,_e hi,_au];exact h _ (_cp _)
theorem z9Z (hc:X.calm=true):yN X (.builtin "all") (λxs H Q=>∃(b:Bool) (p:Addr) (bs:List Bool),xs=[.ref p]/\Sq b X.K H p (bs.map V.bl)/\Q (.bl (bs.all id)) H):=by
 intro pins s O H xs us Q I r h;obtain⟨b,p,bs,rfl,hq,q⟩:=h;obtain⟨u,rfl,ru⟩:=vals1 r;cases ru;obtain⟨its,rv,co⟩:=I.sq hq;have hl:its.length=bs.length:=by have:=rv.length;simp at this;omega
 refine call_all_walk (z6l (I.ok.hd hc) co λs2 e2 St W st bd old=>?_);subst e2;refine⟨_,_,_,_,_,_,λi=>bs.getD i false,rfl,W,st,λi v s3 Q3 E3 e q3=>?_,λh' tk hk=>?_⟩
 ·have e':its[i]? = some v:=by simpa using e
  have hi:i<bs.length:=by have:=(_d.mp e').1;omega
  obtain⟨u,hu,ru⟩:=rv.get (i:=i) (x:=V.bl bs[i]) (by simp[hi]);rw[e']at hu;cases hu;cases ru;have:bs.getD i false=bs[i]:=by simp[List.getD,hi]
  have q3:Q3 (bs.getD i false) s3:=q3;rw[this]at q3;exact _az q3
 ·have ez:its.toArray.size=bs.length:=by simp[hl]
  rw[ez,all_range];exact⟨.bl (bs.all id),H,I.kept (t':=tk) (old h' hk),rfl,q⟩
end
end L2
namespace L2
theorem z69{X:Cx}:yN X (.builtin "isinstance") (λxs H Q=>∃x t T b,xs=[x,.ty T]/\z7C X.K H x t/\W.kitOne X.K t (.type T)=some b/\Q (.bl b) H):=by
 intro pins s O H xs us Q I r h;obtain⟨x,t,T,b,rfl,ht,hk,q⟩:=h;obtain⟨u,v,rfl,ru,rv⟩:=vals2 r;cases rv;exact z9A I ru ht hk λtk=>⟨.bl b,H,I.tok _,rfl,q⟩
end L2
namespace Dd
open L2
def tyD:D->Option String
 | .non=>some "NoneType" | .bl _=>some "bool" | .int _=>some "int" | .str _=>some "str" | .tup _=>some "tuple" | .lst _=>some "list" | .loc _=>some "list" | .dct=>some "dict" | _=>none
def isT(T t:String):Bool:=t==T||(T=="int"&&t=="bool")
def gIs(T:String):D->Sto->R D:=λd s=>match tyD d with | some t=>.ok (.bl (isT T t)) s | none=>.no
theorem zfZ{K:W.Frag}{t:String}(h:t∈["NoneType","bool","int","str","tuple","list","dict"])(T:String)(hT:T∈["int","bool","str","tuple","list"]):W.kitOne K (.type t) (.type T)=some (isT T t):=by
 have hh:t="NoneType"\/t="bool"\/t="int"\/t="str"\/t="tuple"\/t="list"\/t="dict":=by simpa using h
 have hh':T="int"\/T="bool"\/T="str"\/T="tuple"\/T="list":=by simpa using hT
 rcases hh with rfl | rfl | rfl | rfl | rfl | rfl | rfl<;>rcases hh' with rfl | rfl | rfl | rfl | rfl<;>kernel_rfl
theorem zhE{mg:Gm}{H:Hp}{Y:List Addr}{s:Sto}{d:D}{v:V}{t:String}(r:Rep mg H Y s)(dn:Den mg H Y d v)(e:tyD d=some t):z7C mg.K H v (.type t)/\t∈["NoneType","bool","int","str","tuple","list","dict"]:=by cases d with
 | non=>simp only[Den]at dn;subst dn;cases e;exact⟨.non,by simp⟩ | bl b=>cases jq dn;cases e;exact⟨.bl b,by simp⟩ | int b=>cases zN dn;cases e;exact⟨.int b,by simp⟩ | str b=>cases jP dn;cases e;exact⟨.str b,by simp⟩ | tup b=>
  cases e;simp only[Den]at dn;obtain⟨a,vs,rfl,h1,_⟩:=dn;exact⟨.tup h1,by simp⟩ | lst b=>
  cases e;simp only[Den]at dn;obtain⟨a,o,vs,rfl,h1,_⟩:=dn;exact⟨.frz h1,by simp⟩ | loc l=>
  cases e;simp only[Den]at dn;obtain⟨a,rfl,h1,vs,h2⟩:=dn;exact⟨.lst h2,by simp⟩ | dct=>
  cases e;simp only[Den]at dn;obtain⟨a,rfl,h1⟩:=dn;exact⟨.dK h1,by simp⟩ | _=>cases e
section
variable {X:Cx}{E:XK}{e a b c tg:Expr}{es:List Expr}{pos:Pos}{CX:CXT}
def eIs(T:String)(f:FE):FE:=fun ρ s=>(f ρ s).bind λd s1=>gIs T d s1
theorem zh7{p p2:Pos}{T:String}{tn:Str}{f:FE}(hT:T∈["int","bool","str","tuple","list"])(hv:bootBuiltins tn=some (.type T))(hg:Gl X "isinstance")(hm:X.mg "isinstance"=none)(hg2:Gl X tn)(hm2:X.mg tn=none)(he:RE X E e f) (hn:tn≠"__name__":=by decide)(hd:(tn==("__debug__":Str))=false:=by decide) (hs:starEach [e,.Name tn p2] X.env=(false,eval e X.env)::starEach [.Name tn p2] X.env:=by rfl)(hpl:(backTo pos (starEach [.Name tn p2] X.env)).any (·.1)=false:=by rfl):RE X E (.Call (.Name "isinstance" p) [e,.Name tn p2] [] pos) (eIs T f):= zQ (z0a z69 hg hm (by decide +kernel) (ut he (ut (zf7 hg2 hm2 hv (show yg (.ty T) (.type T) from rfl) hn hd) z0G) hs) (by decide) (by decide) hs hpl) λO H Q ⟨Y,ρ,s,r,en,h⟩=>by
  refine zM (k:=fun ρ d s1=>gIs T d s1) r en h _ λv H1 Y1 s1 d r1 en1 dn stp h1=>?_;unfold gIs at h1;split at h1
  ·rename_i t et;obtain⟨q1,q2⟩:=zhE r1 dn et;exact⟨v,.type t,T,isT T t,rfl,q1,zfZ q2 T hT,okR.here (b:=V.bl (isT T t)) h1 r1 wz⟩
  ·exact h1.elim
def zlA:List D->Sto->R D
 | [.int i],s=>.ok (.int (if i<0 then -i else i)) s | _,_=>.no
def intsOf:List D->Option (List Int)
 | []=>some [] | .int i::r=>(intsOf r).map (i::·) | _=>none
def bools:List D->Option (List Bool)
 | []=>some [] | .bl i::r=>(bools r).map (i::·) | _=>none
theorem qX:∀{xs:List D}{ns:List Int},intsOf xs=some ns->xs=ns.map D.int
 | [],ns,h=>by simp[intsOf]at h;subst h;rfl | .int i::r,ns,h=>by
  simp only[intsOf,_x]at h;obtain⟨ms,h1,rfl⟩:=h;rw[qX h1];rfl
theorem vm(ns:List Int):intsOf (ns.map D.int)=some ns:=by induction ns with
 | nil=>rfl | cons n ns ih=>simp[intsOf,ih]
theorem z6R:∀{xs:List D}{ns:List Bool},bools xs=some ns->xs=ns.map D.bl
 | [],ns,h=>by simp[bools]at h;subst h;rfl | .bl i::r,ns,h=>by
  simp only[bools,_x]at h;obtain⟨ms,h1,rfl⟩:=h;rw[z6R h1];rfl
theorem z92(ns:List Bool):bools (ns.map D.bl)=some ns:=by induction ns with
 | nil=>rfl | cons n ns ih=>simp[bools,ih]
theorem qY{mg:Gm}{H:Hp}{Y:List Addr}:∀{ns:List Int}{vs:List V},zm mg H Y (ns.map D.int) vs->vs=ns.map V.int
 | [],vs,h=>by simpa[zm] using h | n::ns,vs,h=>by
  simp only[_j,zm]at h;obtain⟨v,r,rfl,h1,h2⟩:=h;cases zN h1;rw[qY h2];rfl
theorem z6t{mg:Gm}{H:Hp}{Y:List Addr}:∀{ns:List Bool}{vs:List V},zm mg H Y (ns.map D.bl) vs->vs=ns.map V.bl
 | [],vs,h=>by simpa[zm] using h | n::ns,vs,h=>by
  simp only[_j,zm]at h;obtain⟨v,r,rfl,h1,h2⟩:=h;cases jq h1;rw[z6t h2];rfl
def va:List D->Sto->R D
 | [d],s=>match (zY s d).bind intsOf with | some (n::ns)=>.ok (.int (maxL (n::ns))) s | _=>.no
 | _,_=>.no
def z2u:List D->Sto->R D
 | [d],s=>match (zY s d).bind intsOf with | some (n::ns)=>.ok (.int (minL (n::ns))) s | _=>.no
 | _,_=>.no
def zhm:List D->Sto->R D
 | [d],s=>match (zY s d).bind bools with | some ns=>.ok (.bl (ns.all id)) s | none=>.no
 | _,_=>.no
theorem z9H{K:W.Frag}{H:Hp}{a:Addr}{vs:List V}(h:SqL K H a vs\/SqT K H a vs):∃b,Sq b K H a vs:=h.elim (λh=>⟨true,h⟩) λh=>⟨false,h⟩
theorem z0v(hc:X.calm=true):∃r,yN X (.builtin "max") r/\jJ X E r va:=⟨_,zb2 hc,λH Y s ds vs Q r hd h=>by
 unfold va at h;split at h
 ·rename_i d;split at h
  ·rename_i n ns e;obtain⟨xs,e1,e2⟩:=_ak.mp e;have:=qX e2;subst this;obtain⟨v,rfl,dn⟩:=jV hd;obtain⟨a,ws,rfl,q1,q2⟩:=vK (K:=X.K) r e1 dn;cases qY q2;obtain⟨b,q⟩:=z9H q1;exact⟨b,a,n::ns,rfl,q,by simp,h.here r yk⟩
  ·exact h.elim
 ·exact h.elim⟩
theorem zdh(hc:X.calm=true):∃r,yN X (.builtin "min") r/\jJ X E r z2u:=⟨_,z8V hc,λH Y s ds vs Q r hd h=>by
 unfold z2u at h;split at h
 ·rename_i d;split at h
  ·rename_i n ns e;obtain⟨xs,e1,e2⟩:=_ak.mp e;have:=qX e2;subst this;obtain⟨v,rfl,dn⟩:=jV hd;obtain⟨a,ws,rfl,q1,q2⟩:=vK (K:=X.K) r e1 dn;cases qY q2;obtain⟨b,q⟩:=z9H q1;exact⟨b,a,n::ns,rfl,q,by simp,h.here r yk⟩
  ·exact h.elim
 ·exact h.elim⟩
theorem zjM(hc:X.calm=true):∃r,yN X (.builtin "all") r/\jJ X E r zhm:=⟨_,z9Z hc,λH Y s ds vs Q r hd h=>by
 unfold zhm at h;split at h
 ·rename_i d;split at h
  ·rename_i ns e;obtain⟨xs,e1,e2⟩:=_ak.mp e;have:=z6R e2;subst this;obtain⟨v,rfl,dn⟩:=jV hd;obtain⟨a,ws,rfl,q1,q2⟩:=vK (K:=X.K) r e1 dn;cases z6t q2;obtain⟨b,q⟩:=z9H q1;exact⟨b,a,ns,rfl,q,h.here r wz⟩
  ·exact h.elim
 ·exact h.elim⟩
def z1e:List D->List D->List D
 | x::xs,y::ys=>.tup [x,y]::z1e xs ys | _,_=>[]
theorem z0P:∀(xs ys:List D),(z1e xs ys).length=min xs.length ys.length
 | [],ys=>by simp[z1e] | x::xs,[]=>by simp[z1e] | x::xs,y::ys=>by simp only[z1e,_n,z0P xs ys];omega
theorem z8z:∀{xs ys:List D}{i:Nat}{d:D},(z1e xs ys)[i]? = some d->∃x y,xs[i]? = some x/\ys[i]? = some y/\d=.tup [x,y]
 | [],ys,i,d,h=>by simp[z1e]at h | x::xs,[],i,d,h=>by simp[z1e]at h | x::xs,y::ys,0,d,h=>by simp[z1e]at h;exact⟨x,y,by simp,by simp,h.symm⟩ | x::xs,y::ys,i+1,d,h=>by
  simp only[z1e,_o]at h;obtain⟨a,b,h1,h2,h3⟩:=z8z h;exact⟨a,b,by simpa using h1,by simpa using h2,h3⟩
def zdz(s:Sto):D->Option (List D×List (Nat×List D))
 | .tup xs=>some (xs,[]) | .lst xs=>some (xs,[]) | .loc l=>(s[l]?).map λxs=>(xs,[(l,xs)]) | _=>none
theorem z9V{mg:Gm}{H:Hp}{Y:List Addr}{s:Sto}{d:D}{xs:List D}{g:List (Nat×List D)}{v:V}(r:Rep mg H Y s)(h:zdz s d=some (xs,g))(dn:Den mg H Y d v):okG g [] s/\∃(b:Bool)(a:Addr),v=.ref a/\ ∀H2 Y2 s2,yX mg H Y H2 Y2 s2->okG g [] s2->∃ws,Sq b mg.K H2 a ws/\zm mg H2 Y2 xs ws:=by cases d with
 | tup ys=>
  cases h;obtain⟨a,vs,rfl,q1,q2⟩:=vT (K:=mg.K) dn;refine⟨(by intro p hp;simp at hp),false,a,rfl,λH2 Y2 s2 stp _=>?_⟩;obtain⟨a',ws,e,q3,q4⟩:=vT (K:=mg.K) (dn.mono stp);cases e;exact⟨ws,q3,q4⟩ | lst ys=>
  cases h;obtain⟨a,vs,rfl,q1,q2⟩:=zF (d:=.lst xs) r rfl dn;refine⟨(by intro p hp;simp at hp),true,a,rfl,λH2 Y2 s2 stp _=>?_⟩;obtain⟨a',ws,e,q3,q4⟩:=zF (d:=.lst xs) stp.rep rfl (dn.mono stp);cases e;exact⟨ws,.inl q3,q4⟩ | loc l=>
  simp only[zdz,_x]at h;obtain⟨ys,ey,e2⟩:=h;cases e2;obtain⟨a,vs,rfl,q1,q2⟩:=zF (d:=.loc l) r ey dn;have og:okG [(l,xs)] [] s:=λp hp=>by
   have:p=(l,xs):=by simpa using hp
   subst this;exact ey
  refine⟨og,true,a,rfl,λH2 Y2 s2 stp hg=>?_⟩;obtain⟨a',ws,e,q3,q4⟩:=zF (d:=.loc l) stp.rep (hg (l,xs) (by simp)) (dn.mono stp);cases e;exact⟨ws,.inl q3,q4⟩ | _=>cases h
def zdO(f:FA):FI:=fun ρ s=>(f ρ s).bind λds s1=>match ds with
 | [x,y]=>match zdz s1 x,zdz s1 y with
  | some p,some q=>.ok (z1e p.1 q.1,p.2++q.2) s1 | _,_=>.no
 | _=>.no
theorem zeg{p tp:Pos}{elts:List Expr}{kt:Nat}{f:FA}(hg:Gl X "zip")(hm:X.mg "zip"=none)(ha:RA X E [a,b] f)(hs:starEach [a,b] X.env=(false,eval a X.env)::starEach [b] X.env:=by rfl)(hpl:(backTo pos (starEach [b] X.env)).any (·.1)=false:=by rfl): RI X E (.Tuple elts kt tp) (.Call (.Name "zip" p) [a,b] [] pos) (zdO f):= z1H (zis hg hm ha hs hpl) λO H Q ⟨Y,ρ,s,r,en,h⟩=>by
  unfold zdO at h;refine⟨Y,ρ,s,r,en,(okR.bind (Dn:=zm (gm X)) h).imp λvs H1 ⟨Y1,s1,ds,stp,dn,h1⟩=>?_⟩;split at h1
  ·rename_i x y;split at h1
   ·rename_i p q ex ey;obtain⟨xs,gx⟩:=p;obtain⟨ys,gy⟩:=q;obtain⟨v,v',rfl,d1,d2⟩:=z3H dn;obtain⟨og1,b1,a1,rfl,k1⟩:=z9V stp.rep ex d1;obtain⟨og2,b2,a2,rfl,k2⟩:=z9V stp.rep ey d2;obtain⟨w1,q1,_⟩:=k1 H1 Y1 s1 (.refl stp.rep) og1;obtain⟨w2,q2,_⟩:=k2 H1 Y1 s1 (.refl stp.rep) og2;refine⟨a1,a2,b1,b2,rfl,⟨w1,q1⟩,⟨w2,q2⟩,h1.here stp.rep λH2 Y2 s2 stp2 og i=>?_⟩;have h3:okG gx [] s2:=λp hp=>og p (_aK _ hp);have h4:okG gy [] s2:=λp hp=>og p (_B _ hp);refine⟨λd hd=>?_,λhl=>?_⟩
    ·obtain⟨x,y,e1,e2,rfl⟩:=z8z hd;obtain⟨w1,q1,n1⟩:=k1 H2 Y2 s2 stp2 h3;obtain⟨w2,q2,n2⟩:=k2 H2 Y2 s2 stp2 h4;obtain⟨u1,g1,m1⟩:=n1.get e1;obtain⟨u2,g2,m2⟩:=n2.get e2;refine⟨⟨w1,w2,u1,u2,q1,q2,g1,g2⟩,λz H' ⟨T,p,q,hT,ez,eH,hp,hq⟩=>?_⟩;subst ez eH;have e3:=hp w1 q1;have e4:=hq w2 q2;rw[g1]at e3;rw[g2]at e4;cases e3;cases e4;have st3:=yX.lay (o:=.tup [u1,u2]) stp2.rep hT (by intro _ z;cases z);refine⟨Y2,st3,?_⟩;simp only[Den];exact⟨T,[u1,u2],rfl,zC,(zm.cons m1 (zm.one m2)).mono st3⟩
    ·obtain⟨w1,q1,n1⟩:=k1 H2 Y2 s2 stp2 h3;obtain⟨w2,q2,n2⟩:=k2 H2 Y2 s2 stp2 h4;refine⟨w1,w2,q1,q2,?_⟩;rw[n1.length,n2.length];simp only[z0P]at hl;omega
   ·exact h1.elim
  ·exact h1.elim
end
def zW(mp:List (Option Nat))(ρ:Ev):Ev:=mp.map λo=>match o with | some j=>(ρ[j]?).getD none | none=>none
theorem wG.inner{mg:Gm}{H:Hp}{Y:List Addr}{ρ:Ev}{O:L2.St}{mp:List (Option Nat)}(en:wG mg H Y ρ O):wG mg H Y (zW mp ρ) (inner mp O):=by
 refine⟨by simp[zW,L2.inner],λi d h=>?_⟩;simp only[zW,_S,_x]at h;obtain⟨o,h1,h2⟩:=h;cases o with
 | none=>cases h2 | some j=>
  simp only at h2;have h3:ρ[j]? = some (some d):=by cases e:ρ[j]? with
   | none=>rw[e]at h2;cases h2 | some x=>rw[e]at h2;simp at h2;rw[h2]
  obtain⟨v,h4,h5⟩:=en.at_ j d h3;exact⟨v,by simp[L2.inner,h1,h4],h5⟩
open Classical in
def xA(g:List (Nat×List D))(all:List D)(body:D->Sto->R (Option D)):List D->List D->Sto->R (List D)
 | [],acc,s=>if okG g all s then .ok acc s else .no | x::xs,acc,s=>if okG g all s then (body x s).bind λo s1=>match o with
   | some d=>if acc.length<cap then xA g all body xs (acc++[d]) s1 else .no | none=>xA g all body xs acc s1 else .no
def z8y(fi:FI)(mp:List (Option Nat))(fg:FG)(ft:FT)(fe:FE):FA:=fun ρ s=>(fi ρ s).bind λit s1=>xA it.2 it.1 (λd s=>(fg d (zW mp ρ) s).bind fun ρ' s'=>(ft ρ' s').bind λb s2=>if b=true then (fe ρ' s2).bind λd s3=>.ok (some d) s3 else .ok none s2) it.1 [] s1
def z5L(mg:Gm)(E:XK)(mp:List (Option Nat))(g:TG)(fg:FG):Prop:=∀(O:L2.St) H Y ρ s x d (Q:L2.St->Hp->Prop),Rep mg H Y s->wG mg H Y (zW mp ρ) (inner mp O)->Den mg H Y d x->okR mg E H Y (wG mg) (fg d (zW mp ρ) s) Q-> g x (inner mp O) H (λO2 H2=>(O2.length=(inner mp O).length/\∀(i:Nat) v,(inner mp O)[i]? = some (some v)->O2[i]? = some (some v))/\Q O2 H2)
theorem z0H{mp:List (Option Nat)}{i:Nat}(h:mp[i]? = some none)(O:L2.St):(inner mp O)[i]? = some none:=by simp[L2.inner,h]
theorem z2j{O:L2.St}{i:Nat}{v:V}(h:O[i]? = some none):(O.set i (some v)).length=O.length/\∀(j:Nat) u,O[j]? = some (some u)->(O.set i (some v))[j]? = some (some u):=by
 refine⟨by simp,λj u e=>?_⟩;have:i≠j:=λz=>by subst z;rw[h]at e;cases e
 rw[_L this];exact e
section
variable {X:Cx}{E:XK}{e a b c tg iter elt:Expr}{es:List Expr}{pos:Pos}{CX:CXT}{mp:List (Option Nat)}
theorem yt(i:Nat)(h:mp[i]? = some none):z5L (gm X) E mp (z0j i) (wH i):=λO H Y ρ s x d Q r en dn ok=>by
 refine⟨z2j (z0H h O),?_⟩;exact okR.here (b:=(inner mp O).set i (some x)) ok r (en.set dn i)
theorem z7x{fi:FI}{g:TG}{fg:FG}{ft:FT}{fe:FE}{O:L2.St}{H:Hp}{Q:VK}{Y:List Addr}{ρ:Ev}{s:Sto}{β:Type}{kR:List D->Sto->R β}{β2:Type}{Dn:Hp->List Addr->β->β2->Prop}{Q2:β2->Hp->Prop}(hg:z5L (gm X) E mp g fg)(r:Rep (gm X) H Y s)(en:wG (gm X) H Y ρ O) (h:okR (gm X) E H Y Dn ((z8y fi mp fg ft fe ρ s).bind kR) Q2) (fin:∀H1 Y1 s1 xs vs,Rep (gm X) H1 Y1 s1->wG (gm X) H1 Y1 ρ O->zm (gm X) H1 Y1 xs vs->okR (gm X) E H1 Y1 Dn (kR xs s1) Q2->xs.length<=cap->∀p,H1 p=none->Q (.ref p) (upd H1 p (.lst vs))): zg5 (tI (gm X) E fi) mp g (tT (gm X) E ft) (tE (gm X) E fe) O H Q:=by
 unfold z8y at h;have assoc:∀{α γ δ:Type}(x:R α)(f:α->Sto->R γ)(k:γ->Sto->R δ),(x.bind f).bind k=x.bind λa s=>(f a s).bind k:=λx f k=>by cases x<;>rfl
 rw[assoc]at h;refine⟨Y,ρ,s,r,en,(okR.bind (Dn:=zbm (gm X)) h).imp λJ H1 ⟨Y1,s1,it,stp,ok,h1⟩=>?_⟩;obtain⟨items,gd⟩:=it;simp only at h1;refine⟨λi m ys H=>∃Y s acc,yX (gm X) H1 Y1 H Y s/\zm (gm X) H Y acc ys/\acc.length<=cap/\m=items.length-i/\i<=items.length/\ okR (gm X) E H Y Dn ((xA gd items (λd s=>(fg d (zW mp ρ) s).bind fun ρ' s'=>(ft ρ' s').bind λb s2=>if b=true then (fe ρ' s2).bind λd s3=>.ok (some d) s3 else .ok none s2) (items.drop i) acc s).bind kR) Q2, ⟨items.length,Y1,s1,[],.refl stp.rep,zm.nil,_Y _,by simp,_Y _,by simpa using h1⟩,?_⟩;rintro i m ys H2 ⟨Y2,s2,acc,stp2,dn2,hcap,rfl,hil,h2⟩;have en2:wG (gm X) H2 Y2 ρ O:=(en.mono stp).mono stp2;by_cases hlt:i<items.length
 ·right;rw[_ax hlt,xA]at h2;split at h2
  ·rename_i hG;obtain⟨go,yl⟩:=((ok H2 Y2 s2 stp2 hG i).1 items[i] (_e hlt));refine⟨go,λx H' y=>?_⟩;obtain⟨Y3,stp3,dn3⟩:=yl x H' y;have h3:=okR.rebase h2 stp3;rw[assoc,assoc]at h3;have h4:=okR.bind (Dn:=wG (gm X)) h3;refine hg O H' Y3 ρ s2 x items[i] _ stp3.rep ((en2.mono stp3).inner) dn3 (h4.imp λO4 H4 ⟨Y4,s4,ρ4,stp4,en4,h5⟩=>?_);rw[assoc]at h5;refine⟨Y4,ρ4,s4,stp4.rep,en4,(okR.bind (Dn:=bD) h5).imp λbb H5 ⟨Y5,s5,b',stp5,eb,h6⟩=>?_⟩;cases (show b'=bb from eb);have all5:yX (gm X) H1 Y1 H5 Y5 s5:=((stp2.trans stp3).trans stp4).trans stp5;cases bb with
   | true=>
    rw[_f rfl]at h6 ⊢;rw[assoc]at h6;refine⟨Y5,ρ4,s5,stp5.rep,en4.mono stp5,(okR.bind (Dn:=Den (gm X)) h6).imp λy H6 ⟨Y6,s6,d6,stp6,dn6,h7⟩=>?_⟩;simp only[Rb]at h7;split at h7
    ·rename_i hc;have all6:=all5.trans stp6;have dny:zm (gm X) H6 Y6 acc ys:=(((dn2.mono stp3).mono stp4).mono stp5).mono stp6;refine⟨by rw[dn2.length];exact qa hcap,items.length-(i+1),by omega,Y6,s6,acc++[d6],all6,dny.append (zm.one dn6),by simp;omega,rfl,hlt,h7⟩
    ·exact h7.elim | false=>
    rw[_i (by decide)]at h6 ⊢;simp only[Rb]at h6;exact⟨items.length-(i+1),by omega,Y5,s5,acc,all5,((dn2.mono stp3).mono stp4).mono stp5,hcap,rfl,hlt,h6⟩
  ·exact h2.elim
 ·left;have e:i=items.length:=by omega
  subst e;rw[_co,xA]at h2;split at h2
  ·rename_i hG;simp only[Rb]at h2;exact⟨(ok H2 Y2 s2 stp2 hG _).2 (_h _),by rw[dn2.length];exact qa hcap,fin H2 Y2 s2 acc ys stp2.rep en2 dn2 h2 hcap⟩
  ·exact h2.elim
def zK(fi:FI)(mp:List (Option Nat))(fg:FG)(ft:FT)(fe:FE):FE:=fun ρ s=>(z8y fi mp fg ft fe ρ s).bind λxs s1=>.ok (.lst xs) s1
def xJ:FT:=λ_ s=>.ok true s
theorem yV{Yy:Cx}:z8N Yy [] (tT (gm Yy) E xJ):=λpins s O H Q I ⟨Y,ρ,st,r,en,h⟩=>zcN pins s O H Q I (h.here (b:=true) r rfl)
theorem z2q{Yy:Cx}{f:FT}(h:RT Yy E c f):z8N Yy [c] (tT (gm Yy) E f):=zd1 h
section
variable {scope:Scope}{ifs:List Expr}{fi:FI}{fg:FG}{ft:FT}{fe:FE}{g:TG}{spos py:Pos}
theorem zgt(N':List Str)(mp:List (Option Nat))(hc:X.calm=true)(hi:RI X E tg iter fi)(hg:∀ex s H,PG (zp X N' scope ex s H) tg g)(hgt:z5L (gm X) E mp g fg)(ht:∀ex s H,z8N (zp X N' scope ex s H) ifs (tT (gm X) E ft))(he:∀ex s H,RE (zp X N' scope ex s H) E elt fe) (hkd:scope.kind=.function)(hnm:∀y∈scope.names,scope.names.lookup y.1=some y.2) (hfr:∀y∈scope.names,y.2=.free->X.env.kindOf y.1=some .cell\/X.env.kindOf y.1=some .free)(hmp:z1C X.N scope.names N' mp=true) (hs:∀x,foldedSetIterable iter X.env x=pure x:=by intro _;rfl):RE X E (.ListComp elt [⟨tg,iter,ifs,0⟩] scope pos) (zK fi mp fg ft fe):= zQ (zfe (te:=tE (gm X) E fe) N' mp hc hi hg ht (λex s H=>he ex s H) hkd hnm hfr hmp hs).freeze λO H Q ⟨Y,ρ,s,r,en,h⟩=> z7x hgt r en h λH1 Y1 s1 xs vs r1 en1 dn h1 hcap=>vc r1 h1 dn
theorem z7L {i:Nat} {y:Str} (N':List Str) (mp:List (Option Nat)) (hN:X.N.Nodup) (hc:X.calm=true) (hi:RI X E tg iter fi) (hg:∀ex s H,PG (zp X N' scope ex s H) tg g) (hgt:z5L (gm X) E mp g fg) (ht:∀ex s H,z8N (zp X N' scope ex s H) ifs (tT (gm X) E ft)) (he:∀ex s H,RE (zp X N' scope ex s H) E elt fe) (hkd:scope.kind=.function) (hnm:∀y∈scope.names,scope.names.lookup y.1=some y.2) (hfr:∀y∈scope.names,y.2=.free->X.env.kindOf y.1=some .cell\/X.env.kindOf y.1=some .free) (hmp:z1C X.N scope.names N' mp=true) (hy:X.N[i]? = some y:=by rfl) (hyl:Loc X.env.scope y:=by first | exact Or.inl rfl | exact Or.inr rfl) (hs:∀x,foldedSetIterable iter X.env x=pure x:=by intro _;rfl) (hsw:swapsWith (.ListComp elt [⟨tg,iter,ifs,0⟩] scope pos) (some (.Name y py)) spos.line X.env=pure true:=by rfl) (hf:X.fn y=true\/X.env.scope.names.lookup y=some .local:=by first | exact .inl rfl | exact .inr rfl | assumption): RS X E (.Assign [.Name y py] (.ListComp elt [⟨tg,iter,ifs,0⟩] scope pos) spos) (vh i (zK fi mp fg ft fe)):= wq (z5D (te:=tE (gm X) E fe) N' mp hN hy hyl hc hi hg ht (λex s H=>he ex s H) hkd hnm hfr hmp hs hsw hf) λD O H ⟨Y,ρ,s,r,en,h⟩=>by
  have assoc:∀{α γ δ:Type} (x:R α) (f:α->Sto->R γ) (k:γ->Sto->R δ),(x.bind f).bind k=x.bind λa s=>(f a s).bind k:=λx f k=>by cases x<;>rfl
  unfold vh zK at h;rw[assoc]at h;refine z7x hgt r en h λH1 Y1 s1 xs vs r1 en1 dn h1 hcap p hp=>?_;refine vc (E:=E) (mg:=gm X) (xs:=xs) r1 (λv H2 Y2 stp dn2=>?_) dn p hp;exact h1 (.nx (O.set i (some v))) H2 Y2 stp ((en1.mono stp).set dn2 i)
end
end
section
variable {X:Cx}{E:XK}{e a b c tg iter elt:Expr}{es:List Expr}{pos:Pos}{CX:CXT}{mp:List (Option Nat)}
def zdW(K:W.Frag)(i j:Nat):TG:=zkJ K 2 (zfl (z0j i) (zfl (z0j j) zkA))
theorem jv(i j:Nat){x y:Str}{px py:Pos}{kt:Nat}(hc:X.calm=true)(hN:X.N.Nodup)(hi:X.N[i]? = some x:=by rfl)(hj:X.N[j]? = some y:=by rfl)(hx:Loc X.env.scope x:=by first | exact Or.inl rfl | exact Or.inr rfl)(hy:Loc X.env.scope y:=by first | exact Or.inl rfl | exact Or.inr rfl) (hf:X.fn x=true\/X.env.scope.names.lookup x=some .local:=by first | exact .inl rfl | exact .inr rfl | assumption)(hf':X.fn y=true\/X.env.scope.names.lookup y=some .local:=by first | exact .inl rfl | exact .inr rfl | assumption): PG X (.Tuple [.Name x px,.Name y py] kt pos) (zdW X.K i j):=zdM hc (z0d (yb hN hi hx hf) (z0d (yb hN hj hy hf') zaG))
theorem qW(i j:Nat)(hij:i≠j)(h:mp[i]? = some none)(h':mp[j]? = some none):z5L (gm X) E mp (zdW X.K i j) (xI i j):=λO H Y ρ s x d Q r en dn ok=>by
 unfold xI at ok;split at ok
 ·rename_i d1 d2;obtain⟨p,vs,rfl,q1,q2⟩:=vT (K:=X.K) dn;obtain⟨v1,v2,rfl,e1,e2⟩:=z3H q2;have k1:=z2j (v:=v1) (z0H h O);have own2:((inner mp O).set i (some v1))[j]? = some none:=by rw[_L hij];exact z0H h' O
  have k2:=z2j (v:=v2) own2;exact⟨p,[v1,v2],rfl,q1,rfl,v1,[v2],rfl,v2,[],rfl,rfl,⟨k2.1.trans k1.1,λl u e=>k2.2 l u (k1.2 l u e)⟩,okR.here ok r ((en.set e1 i).set e2 j)⟩
 ·exact ok.elim
end
def zE(N:List Str)(ds:List D):Ev:=ds.map some++List.replicate (N.length-ds.length) none
theorem z24{mg:Gm}{H:Hp}{Y:List Addr}{N:List Str}:∀{ds:List D}{vs:List V},zm mg H Y ds vs->wG mg H Y (zE N ds) (L2.start N vs):=λ{ds vs} h=>by
 have hl:=h.length;refine⟨by simp[zE,L2.start,hl],λi d e=>?_⟩;unfold zE at e;have hi:i<ds.length:=by
  by_cases hi:i<ds.length;·exact hi
  ·rw[_aj (by simpa using hi),List.getElem?_replicate]at e;split at e<;>cases e
 rw[_r (by simpa using hi),_S]at e;have e':ds[i]? = some d:=by cases q:ds[i]? with
  | none=>rw[q]at e;cases e | some x=>rw[q]at e;simp at e;rw[e]
 obtain⟨v,h1,h2⟩:=h.get e';refine⟨v,?_,h2⟩;unfold L2.start;rw[_r (by simpa[hl] using hi),_S,h1];rfl
def Mof(N:List Str)(n:Nat)(fs:FS):Mir:=λds s=>if ds.length=n then (match fs (zE N ds) s with
 | .ok (.rt d) s'=>.ok d s' | .ok (.nx _) s'=>.ok .non s' | _=>.no) else .no
section
variable {P:Program}{w:World}{K:W.Frag}{mg:Str->Option Value}{base:Heap}
theorem Has.mono{CX:CXT}{x:Str}{n m:Nat}{M:Mir}(h:Has P w K mg base CX x n M)(hl:n<=m):Has P w K mg base CX x m M:=by
 obtain⟨f,fd,ps,F,r⟩:=h;exact⟨f,fd,ps,F.mono hl,r⟩
theorem zO{x qual:Str}{st:Stmt}{f:Addr}{fd:FuncData}{N ps:List Str}{k n:Nat}{fs:FS}(F:Fun K x qual st f fd)(hm:mg x=some (.ref f))(hb:Binds K fd ps [])(S:zu N ps (zg st))(hn:ps.length=n) (body:∀(cdv:Value)(A:Around)(outer:List Env)(s:Shared)(H:Hp)(E:XK),z07 k (A.deeper (envOfC qual (zg st) s.heap.objs.size f cdv))->(zbl CX0 P w K mg base N qual (zg st) f cdv A outer s H E).nox.calm=true-> RSs (zbl CX0 P w K mg base N qual (zg st) f cdv A outer s H E).nox E0 (vN st) fs):Has P w K mg base CX0 x (k+1) (Mof N n fs):=by
 subst hn;refine⟨f,fd,ps,F.ok S (λvs H Q E h=>?_) (λcdv A outer s H vs Q E hr h=>?_),hb,F.kp,hm⟩
 ·obtain⟨Y,s,ds,_,dn,h⟩:=h;unfold Mof at h;split at h;·rename_i e;rw[dn.length];exact e
  ·exact h.elim
 ·obtain⟨Y,st0,ds,r,dn,h⟩:=h;refine⟨_,body cdv A outer s H E hr (by show A.handled.isNone=true;rw[show A.handled=none from hr.hd];rfl),Y,zE N ds,st0,r,z24 dn,?_⟩;unfold Mof at h;split at h
  ·split at h
   ·rename_i d s' e;rw[e];intro fv H' Y' stp fd;cases fv with
    | rt v=>exact h v H' Y' stp fd | _=>exact (show False from fd).elim
   ·rename_i ρ s' e;rw[e];intro fv H' Y' stp fd;cases fv with
    | nx v=>exact h .non H' Y' stp (by simp[Den]) | _=>exact (show False from fd).elim
   ·exact h.elim
  ·exact h.elim
end
def zfv(K:W.Frag):Sp:=λvs H Q _=>∃(a:Addr)(ns:List Int),vs=[.ref a]/\zk8 H/\SqL K H a (ns.map V.int)/\ns.length<=63/\∀H',Q (.bl true) H'
theorem ux{mg:Gm}{H:Hp}{Y:List Addr}:∀(ns:List Int),zm mg H Y (ns.map D.int) (ns.map V.int)
 | []=>zm.nil | n::ns=>zm.cons yk (ux ns)
theorem ziu{P:Program}{w:World}{K:W.Frag}{mg:Str->Option Value}{base:Heap}{x:Str}{n:Nat}{M:Mir}{f:Addr}{fd:FuncData}{ps:List Str}(F:z2R P w K mg base CX0 n f fd ps (zet ⟨mg,K⟩ M)) (h:∀ns:List Int,ns.length<=63->∃s',M [.scr (ns.map D.int)] []=.ok (.bl true) s'):z2R P w K mg base CX0 n f fd ps (zfv K):= F.imp λvs H Q E ⟨a,ns,e,ho,hq,hl,q⟩=>by
  subst e;obtain⟨s',hs⟩:=h ns hl;refine⟨[],[],[.scr (ns.map D.int)],⟨rfl,List.nodup_nil,λl xs z=>by simp at z,λxs z=>by simp at z,λb h z=>by simp at z,λa ha=>by simp at ha⟩,zm.one ?_,?_⟩
  ·simp only[Den];refine⟨a,ns.map V.int,rfl,?_,ux ns⟩;rcases hq with (z | z) | z
   ·rcases ho a with y | ⟨o,xs,y⟩;·rw[y]at z;cases z
    ·rw[y]at z;cases z
   ·exact .inl z
   ·exact .inr z
  ·rw[hs];intro v H' Y' stp dn;cases jq dn;exact q H'
section
variable {X:Cx}{E:XK}{e a b c tg iter elt:Expr}{es:List Expr}{pos:Pos}{CX:CXT}
def z5k(f:FE):FE:=fun ρ s=>(f ρ s).bind λd s1=>match d with | .int i=>.ok (.int (-i)) s1 | _=>.no
theorem z5I{f:FE}(h:RE X E a f):RE X E (.UnaryOp .USub a pos) (z5k f):= zQ (zid zdo h) λO H Q ⟨Y,ρ,s,r,en,h⟩=>by
  refine zM (k:=fun ρ d s1=>match d with | .int i=>R.ok (D.int (-i)) s1 | _=>.no) r en h _ λv H1 Y1 s1 d r1 en1 dn stp h1=>?_;cases d with
  | int i=>
   cases zN dn;exact⟨i,rfl,okR.here (b:=V.int (-i)) h1 r1 yk⟩ | _=>exact h1.elim
theorem za5{op op':CmpOp}{fo fo':D->D->Sto->R D}{fa fb fc:FE}(ho:∃r,OpR X (compareOp op) r/\OpF X E r fo)(ho':∃r,OpR X (compareOp op') r/\OpF X E r fo')(ha:RE X E a fa)(hb:RE X E b fb)(hc:RE X E c fc) (hm:lastMarks [op,op'] [b,c]=false:=by with_unfolding_all rfl):RT X E (.Compare a [op,op'] [b,c] pos) (tOf (z1b fo fo' fa fb fc)):=by
 obtain⟨r,h1,h2⟩:=ho;obtain⟨r',h1',h2'⟩:=ho';exact z7n (zcy h1 h1' ha hb hc hm) λO H Q h=>by
  have q:=z2c h;exact z4q h2 h2' q
def qH(i:Int)(n:Nat):List D:=(List.range n).map λ(k:Nat)=>D.int (i+((k:Nat):Int))
def z9f(f:FA):FI:=fun ρ s=>(f ρ s).bind λds s1=>match ds with
 | [.int i,.int j]=>if -(2 ^ 62)<=i/\i<2 ^ 62/\-(2 ^ 62)<=j/\j<2 ^ 62 then .ok (qH i (j-i).toNat,[]) s1 else .no | _=>.no
theorem zc8{p:Pos}{f:FA}(hg:Gl X "range")(hm:X.mg "range"=none)(ha:RA X E [a,b] f)(hs:starEach [a,b] X.env=[(false,eval a X.env),(false,eval b X.env)]:=by rfl)(hs2:starEach [b] X.env=[(false,eval b X.env)]:=by rfl):RI X E tg (.Call (.Name "range" p) [a,b] [] pos) (z9f f):= z1H (z9t hg hm ha hs hs2) λO H Q ⟨Y,ρ,s,r,en,h⟩=>by
  unfold z9f at h;refine⟨Y,ρ,s,r,en,(okR.bind (Dn:=zm (gm X)) h).imp λvs H1 ⟨Y1,s1,ds,stp,dn,h1⟩=>?_⟩;split at h1
  ·rename_i i j;split at h1
   ·rename_i hj;obtain⟨v,v',rfl,d1,d2⟩:=z3H dn;cases zN d1;cases zN d2;refine⟨i,j,rfl,hj,h1.here stp.rep λH2 Y2 s2 stp2 _ k=>⟨λd hd=>?_,λhl=>?_⟩⟩
    ·have hi:k<(j-i).toNat:=by
      have:=(_d.mp hd).1;simpa[qH] using this
     refine⟨hi,λx H' ⟨e1,e2⟩=>?_⟩;subst e1 e2;refine⟨Y2,.refl stp2.rep,?_⟩;have e3:d=D.int (i+k):=by
      simp only[qH,_S,_cP hi,_H,_u]at hd;exact hd.symm
     rw[e3];exact yk
    ·have:(qH i (j-i).toNat).length=(j-i).toNat:=by simp[qH]
     show (j-i).toNat<=k;rw[<- this];exact hl
   ·exact h1.elim
  ·exact h1.elim
end
def isK(o:Option NameKind)(k:NameKind):Bool:=match o,k with
 | some .local,.local=>true | some .cell,.cell=>true | some .free,.free=>true | some .globalImplicit,.globalImplicit=>true | _,_=>false
theorem za4{o:Option NameKind}{k:NameKind}(h:isK o k=true):o=some k:=by cases o with
 | none=>cases k<;>simp[isK]at h | some j=>cases j<;>cases k<;>first | rfl | simp[isK]at h
def isF(k:NameKind):Bool:=match k with | .free=>true | _=>false
theorem zh0{k:NameKind}(h:k=.free):isF k=true:=by subst h;rfl
def zcK(ko:Str->Option NameKind)(names:List (Str×NameKind)):Bool:=names.all λy=>!isF y.2||(isK (ko y.1) .cell||isK (ko y.1) .free)
theorem z2y{ko:Str->Option NameKind}{names:List (Str×NameKind)}(h:zcK ko names=true):∀y∈names,y.2=.free->ko y.1=some .cell\/ko y.1=some .free:=λy hy hf=>by
 have:=_V.mp h y hy;rw[zh0 hf]at this;simp only[_aT,Bool.false_or,Bool.or_eq_true]at this;exact this.imp za4 za4
def zbA(names:List (Str×NameKind)):Bool:=names.all λy=>isK (names.lookup y.1) y.2
theorem z3b{names:List (Str×NameKind)}(h:zbA names=true):∀y∈names,names.lookup y.1=some y.2:=λy hy=>by
 have:=_V.mp h y hy;exact za4 this
section
variable {X:Cx}{E:XK}{e a b c tg iter elt:Expr}{es:List Expr}{pos:Pos}{CX:CXT}
variable {scope:Scope}{ifs:List Expr}{fi:FI}{fg:FG}{ft:FT}{fe:FE}{g:TG}{spos py:Pos}
theorem ziy{x:Str}{i:Int}(hg:Gl X x)(hm:∃t,X.mg x=some (.int i t))(hd:(x==("__debug__":Str))=false:=by decide):RE X E (.Name x pos) (eC (.int i)):=let ⟨_,h⟩:=hm;zhT hg h hd
theorem yr(N':List Str)(mp:List (Option Nat))(hc:X.calm=true)(hi:RI X E tg iter fi)(hg:∀ex s H,PG (zp X N' scope ex s H) tg g)(hgt:z5L (gm X) E mp g fg)(ht:∀ex s H,z8N (zp X N' scope ex s H) ifs (tT (gm X) E ft))(he:∀ex s H,RE (zp X N' scope ex s H) E elt fe) (hkd:scope.kind=.function:=by rfl)(hnm:zbA scope.names=true:=by rfl)(hfr:zcK X.env.kindOf scope.names=true:=by rfl)(hmp:z1C X.N scope.names N' mp=true:=by rfl) (hs:∀x,foldedSetIterable iter X.env x=pure x:=by intro _;rfl):RE X E (.ListComp elt [⟨tg,iter,ifs,0⟩] scope pos) (zK fi mp fg ft fe):= zgt N' mp hc hi hg hgt ht he hkd (z3b hnm) (z2y hfr) hmp hs
theorem zeF(i:Nat){y:Str}(N':List Str)(mp:List (Option Nat))(hN:X.N.Nodup)(hc:X.calm=true)(hi:RI X E tg iter fi)(hg:∀ex s H,PG (zp X N' scope ex s H) tg g)(hgt:z5L (gm X) E mp g fg)(ht:∀ex s H,z8N (zp X N' scope ex s H) ifs (tT (gm X) E ft))(he:∀ex s H,RE (zp X N' scope ex s H) E elt fe) (hkd:scope.kind=.function:=by rfl)(hnm:zbA scope.names=true:=by rfl)(hfr:zcK X.env.kindOf scope.names=true:=by rfl)(hmp:z1C X.N scope.names N' mp=true:=by rfl)(hy:X.N[i]? = some y:=by rfl)(hyl:Loc X.env.scope y:=by first | exact Or.inl rfl | exact Or.inr rfl) (hs:∀x,foldedSetIterable iter X.env x=pure x:=by intro _;rfl) (hsw:swapsWith (.ListComp elt [⟨tg,iter,ifs,0⟩] scope pos) (some (.Name y py)) spos.line X.env=pure true:=by rfl) (hf:X.fn y=true\/X.env.scope.names.lookup y=some .local:=by first | exact .inl rfl | exact .inr rfl | assumption): RS X E (.Assign [.Name y py] (.ListComp elt [⟨tg,iter,ifs,0⟩] scope pos) spos) (vh i (zK fi mp fg ft fe)):= z7L N' mp hN hc hi hg hgt ht he hkd (z3b hnm) (z2y hfr) hmp hy hyl hs hsw hf
end
theorem zh8{P:Program}{w:World}{K:W.Frag}{mg:Str->Option Value}{base:Heap}{x qual:Str}{st:Stmt}{f:Addr}{fd:FuncData}{N ps:List Str}{k n:Nat}{fs:FS}(F:Fun K x qual st f fd)(S:zu N ps (zg st))(hn:ps.length=n) (body:∀(cdv:Value)(A:Around)(outer:List Env)(s:Shared)(H:Hp)(E:XK),z07 k (A.deeper (envOfC qual (zg st) s.heap.objs.size f cdv))->(zbl CX0 P w K mg base N qual (zg st) f cdv A outer s H E).nox.calm=true-> RSs (zbl CX0 P w K mg base N qual (zg st) f cdv A outer s H E).nox E0 (vN st) fs):z2R P w K mg base CX0 (k+1) f fd ps (zet ⟨mg,K⟩ (Mof N n fs)):=by
 subst hn;refine F.ok S (λvs H Q E h=>?_) (λcdv A outer s H vs Q E hr h=>?_)
 ·obtain⟨Y,s,ds,_,dn,h⟩:=h;unfold Mof at h;split at h;·rename_i e;rw[dn.length];exact e
  ·exact h.elim
 ·obtain⟨Y,st0,ds,r,dn,h⟩:=h;refine⟨_,body cdv A outer s H E hr (by show A.handled.isNone=true;rw[show A.handled=none from hr.hd];rfl),Y,zE N ds,st0,r,z24 dn,?_⟩;unfold Mof at h;split at h
  ·split at h
   ·rename_i d s' e;rw[e];intro fv H' Y' stp fd;cases fv with
    | rt v=>exact h v H' Y' stp fd | _=>exact (show False from fd).elim
   ·rename_i ρ s' e;rw[e];intro fv H' Y' stp fd;cases fv with
    | nx v=>exact h .non H' Y' stp (by simp[Den]) | _=>exact (show False from fd).elim
   ·exact h.elim
  ·exact h.elim
section
variable {all xs:List D}{ρ:Ev}{s:Sto}
theorem z30{body:D->Ev->Sto->R Fl}(I:Ev->Sto->Prop):∀(xs:List D),(∀x∈xs,∀ ρ s,I ρ s->∃ ρ' s',body x ρ s=.ok (.nx ρ') s'/\I ρ' s')->∀ ρ s,I ρ s->∃ ρ' s',wE [] all body xs ρ s=.ok (.nx ρ') s'/\I ρ' s'
 | [],_,ρ,s,h=>⟨ρ,s,by simp[wE,okG],h⟩ | x::xs,hb,ρ,s,h=>by
  obtain⟨ρ1,s1,e1,h1⟩:=hb x (by simp) ρ s h;obtain⟨ρ2,s2,e2,h2⟩:=z30 I xs (λy hy=>hb y (by simp[hy])) ρ1 s1 h1;exact⟨ρ2,s2,by simp[wE,okG,e1,e2],h2⟩
theorem z47{body:D->Sto->R (Option D)}(f:D->D):∀(xs acc:List D),(∀x∈xs,body x s=.ok (some (f x)) s)->acc.length+xs.length<=cap->xA [] all body xs acc s=.ok (acc++xs.map f) s
 | [],acc,_,_=>by simp[xA,okG] | x::xs,acc,hb,hl=>by
  have ih:=z47 f xs (acc++[f x]) (λy hy=>hb y (by simp[hy])) (by simp at hl ⊢;omega);have hc:acc.length<cap:=by simp at hl;omega
  rw[xA];simp[okG,hb x (by simp),hc,ih]
end
section
variable (i j k n:Nat)(ρ:Ev)(s:Sto)(f g fa fb fc:FE)(d x y:D)(ds:List D)(ar:FA)(op op':D->D->Sto->R D)(ft ft':FT)(fs fs':FS)(M:Mir)(T:String)(fl fh fo:FO)(fi:FI)(fg:FG)(mp:List (Option Nat))(N:List Str)
@[simp] theorem yz:zc i ρ s=(match ρ[i]? with | some (some d)=>.ok d s | _=>.no):=id rfl
@[simp] theorem z2Q:eC d ρ s=.ok d s:=id rfl
@[simp] theorem xB:eOp op fa fb ρ s=(fa ρ s).bind λx s1=>(fb ρ s1).bind λy s2=>op x y s2:=id rfl
@[simp] theorem yI:zd M ar ρ s=(ar ρ s).bind λxs s1=>M xs s1:=id rfl
@[simp] theorem zI:zi ρ s=.ok [] s:=id rfl
@[simp] theorem zo:za f ar ρ s=(f ρ s).bind λx s1=>(ar ρ s1).bind λxs s2=>.ok (x::xs) s2:=id rfl
@[simp] theorem vP:kC ar ρ s=(ar ρ s).bind λxs s1=>if xs.length<=cap then .ok (.tup xs) s1 else .no:=id rfl
@[simp] theorem z4s:z9n ar ρ s=(ar ρ s).bind λxs s1=>if xs.length<=cap then .ok (.lst xs) s1 else .no:=id rfl
@[simp] theorem zaR:zfq ar ρ s=(ar ρ s).bind λxs s1=>if xs.length<=cap/\D.flat.flats xs=true then .ok (.loc s1.length) (s1++[xs]) else .no:=id rfl
@[simp] theorem zlh:eIs T f ρ s=(f ρ s).bind λd s1=>gIs T d s1:=id rfl
@[simp] theorem z95:z5k f ρ s=(f ρ s).bind λd s1=>match d with | .int i=>.ok (.int (-i)) s1 | _=>.no:=id rfl
@[simp] theorem zkr:zkm f ρ s=(f ρ s).bind λx s1=>match x with | .bl k=>.ok (.bl (!k)) s1 | _=>.no:=id rfl
@[simp] theorem zkO:zgj fa fb ρ s=(fa ρ s).bind λx s1=>match x with | .bl true=>fb ρ s1 | .bl false=>.ok (.bl false) s1 | _=>.no:=id rfl
@[simp] theorem zi3:eIf ft fa fb ρ s=(ft ρ s).bind λx s1=>if x=true then fa ρ s1 else fb ρ s1:=id rfl
@[simp] theorem z55:eSl f fl fh ρ s=(f ρ s).bind λx s1=>(fl ρ s1).bind λlo s2=>(fh ρ s2).bind λhi s3=>dSl x lo hi s3:=id rfl
@[simp] theorem vg:yj ρ s=.ok none s:=id rfl
@[simp] theorem qJ:wZ f ρ s=(f ρ s).bind λd s1=>match d with | .int i=>.ok (some i) s1 | _=>.no:=id rfl
@[simp] theorem z6j:tOf f ρ s=(f ρ s).bind λd s1=>match d with | .bl k=>.ok k s1 | _=>.no:=id rfl
@[simp] theorem z7A:zgg ft ft' ρ s=(ft ρ s).bind λx s1=>if x=true then ft' ρ s1 else .ok false s1:=id rfl
@[simp] theorem zjT:fOr ft ft' ρ s=(ft ρ s).bind λx s1=>if x=true then .ok true s1 else ft' ρ s1:=id rfl
@[simp] theorem z7D:z3D ft ρ s=(ft ρ s).bind λx s1=>.ok (!x) s1:=id rfl
@[simp] theorem ziJ:z1b op op' fa fb fc ρ s=(fa ρ s).bind λx s1=>(fb ρ s1).bind λy s2=>(op x y s2).bind λz s3=>match z with
 | .bl true=>(fc ρ s3).bind λw s4=>op' y w s4 | .bl false=>.ok (.bl false) s3 | _=>.no:=id rfl
@[simp] theorem zd8:zA fs fs' ρ s=(fs ρ s).bind λfl s1=>match fl with | .nx ρ'=>fs' ρ' s1 | fl=>.ok fl s1:=id rfl
@[simp] theorem zjJ:xM ρ s=.ok (.nx ρ) s:=id rfl
@[simp] theorem zlc:fNo ρ s=.no:=id rfl
@[simp] theorem uz:vU f ρ s=(f ρ s).bind λ_ s1=>.ok (.nx ρ) s1:=id rfl
@[simp] theorem xW:wg f ρ s=(f ρ s).bind λd s1=>.ok (.rt d) s1:=id rfl
@[simp] theorem z4h:fIf ft fs fs' ρ s=(ft ρ s).bind λx s1=>if x=true then fs ρ s1 else fs' ρ s1:=id rfl
@[simp] theorem yw:vh i f ρ s=(f ρ s).bind λd s1=>.ok (.nx (ρ.set i (some d))) s1:=id rfl
@[simp] theorem z7o:zbo f fg ρ s=(f ρ s).bind λd s1=>(fg d ρ s1).bind fun ρ' s2=>.ok (.nx ρ') s2:=id rfl
@[simp] theorem zgH:zkf i j ar ρ s=(ar ρ s).bind λds s1=>match ds with | [x,y]=>.ok (.nx ((ρ.set i (some x)).set j (some y))) s1 | _=>.no:=id rfl
@[simp] theorem zdQ:wH i d ρ s=.ok (ρ.set i (some d)) s:=id rfl
@[simp] theorem ze9:xI i j (.tup [x,y]) ρ s=.ok ((ρ.set i (some x)).set j (some y)) s:=id rfl
@[simp] theorem zfK:z4u fa fb fc ρ s=(fc ρ s).bind λd s1=>(fa ρ s1).bind λo s2=>(fb ρ s2).bind λi s3=>match o,i with
 | .loc l,.int k=>match s3[l]? with
  | some xs=>match ixN xs.length k with
   | some j=>if d.flat=true then .ok (.nx ρ) (s3.set l (xs.set j d)) else .no | none=>.no
  | none=>.no
 | _,_=>.no:=id rfl
@[simp] theorem z9d:yG f ρ s=(f ρ s).bind λd s1=>match d with
 | .tup xs=>.ok (xs,[]) s1 | .lst xs=>.ok (xs,[]) s1 | .loc l=>match s1[l]? with | some xs=>.ok (xs,[(l,xs)]) s1 | none=>.no
 | _=>.no:=id rfl
@[simp] theorem zdD:z5g ar ρ s=(ar ρ s).bind λds s1=>match ds with
 | [.int j]=>if -(2 ^ 62)<=j/\j<2 ^ 62 then .ok (ye j.toNat,[]) s1 else .no | _=>.no:=id rfl
@[simp] theorem zf1:z9f ar ρ s=(ar ρ s).bind λds s1=>match ds with
 | [.int i,.int j]=>if -(2 ^ 62)<=i/\i<2 ^ 62/\-(2 ^ 62)<=j/\j<2 ^ 62 then .ok (qH i (j-i).toNat,[]) s1 else .no | _=>.no:=id rfl
@[simp] theorem z9v:zdO ar ρ s=(ar ρ s).bind λds s1=>match ds with
 | [x,y]=>match zdz s1 x,zdz s1 y with
  | some p,some q=>.ok (z1e p.1 q.1,p.2++q.2) s1 | _,_=>.no
 | _=>.no:=id rfl
@[simp] theorem z1a:z9p fi fg fs ρ s=(fi ρ s).bind λit s1=>wE it.2 it.1 (λd ρ s=>(fg d ρ s).bind fun ρ' s'=>fs ρ' s') it.1 ρ s1:=id rfl
@[simp] theorem z15:z8y fi mp fg ft f ρ s=(fi ρ s).bind λit s1=>xA it.2 it.1 (λd s=>(fg d (zW mp ρ) s).bind fun ρ' s'=>(ft ρ' s').bind λb s2=>if b=true then (f ρ' s2).bind λd s3=>.ok (some d) s3 else .ok none s2) it.1 [] s1:=id rfl
@[simp] theorem jL:zK fi mp fg ft f ρ s=(z8y fi mp fg ft f ρ s).bind λxs s1=>.ok (.lst xs) s1:=id rfl
@[simp] theorem zk4:xJ ρ s=.ok true s:=id rfl
@[simp] theorem zb1:zfh fa fb ρ s=(fa ρ s).bind λo s1=>match o with
 | .loc l=>(fb ρ s1).bind λd s2=>match s2[l]? with
  | some xs=>if d.flat=true/\xs.length<cap then .ok .non (s2.set l (xs++[d])) else .no | none=>.no
 | _=>.no:=id rfl
@[simp] theorem zdf:zW [] ρ=[]:=id rfl
@[simp] theorem zgb:zW (some i::mp) ρ=(ρ[i]?).getD none::zW mp ρ:=id rfl
@[simp] theorem zgf:zW (none::mp) ρ=none::zW mp ρ:=id rfl
variable (a b:Int)(u v:Bool)(xs ys:List D)
@[simp] theorem jf:wP (.int a) (.int b) s=.ok (.int (a+b)) s:=rfl
@[simp] theorem z1Q:wP (.tup xs) (.tup ys) s=if xs.length+ys.length<=cap then .ok (.tup (xs++ys)) s else .no:=rfl
@[simp] theorem zkE:wP (.lst xs) (.lst ys) s=if xs.length+ys.length<=cap then .ok (.lst (xs++ys)) s else .no:=rfl
@[simp] theorem z6B:zbj (.int a) (.int b) s=.ok (.int (a-b)) s:=rfl
theorem zdd:wI (.int a) (.int b) s=if a.natAbs<BIG/\b.natAbs<BIG then .ok (.int (a*b)) s else .no:=by
 simp only[wI,dII,iOk];split<;>(rename_i h;split at h<;>simp_all)
theorem zac:z5V (.int a) (.int b) s=if 0<b/\b.natAbs<BIG then .ok (.int (a / b)) s else .no:=by
 simp only[z5V,dII,iOk];split<;>(rename_i h;split at h<;>simp_all)
theorem zgx:za8 (.int a) (.int b) s=if 0<b then .ok (.int (a % b)) s else .no:=by
 simp only[za8,dII,iOk];split<;>(rename_i h;split at h<;>simp_all)
theorem zaB:z8u (.int a) (.int b) s=if 0<=b/\b<=1000/\a.natAbs<1000 then .ok (.int (a ^ b.toNat)) s else .no:=by
 simp only[z8u,dII,iOk];split<;>(rename_i h;split at h<;>simp_all)
@[simp] theorem zjg:dLt (.int a) (.int b) s=.ok (.bl (decide (a<b))) s:=rfl
@[simp] theorem zla:dLe (.int a) (.int b) s=.ok (.bl (decide (a<=b))) s:=rfl
@[simp] theorem zes:dGt (.int a) (.int b) s=.ok (.bl (decide (b<a))) s:=rfl
@[simp] theorem zjC:dGe (.int a) (.int b) s=.ok (.bl (decide (b<=a))) s:=rfl
@[simp] theorem zf2:dEq (.int a) (.int b) s=.ok (.bl (decide (a=b))) s:=by
 have:eqD (.int a) (.int b)=decide (a=b):=by
  simp only[eqD,xl,PyData.eqv];rw[_cM];simp
 rw[dEq,this];rfl
@[simp] theorem zhb:dNe (.int a) (.int b) s=.ok (.bl (decide (a≠b))) s:=by
 have:eqD (.int a) (.int b)=decide (a=b):=by
  simp only[eqD,xl,PyData.eqv];rw[_cM];simp
 rw[dNe,this,_f (by constructor<;>rfl)];simp
@[simp] theorem zl4:dEq (.bl u) (.bl v) s=.ok (.bl (u==v)) s:=by cases u<;>cases v<;>rfl
@[simp] theorem zjF:dNe (.bl u) (.bl v) s=.ok (.bl (u != v)) s:=by cases u<;>cases v<;>rfl
end
theorem zk{f g:FS}{ρ ρ':Ev}{s s':Sto}(h:f ρ s=.ok (.nx ρ') s'):zA f g ρ s=g ρ' s':=by simp[h]
theorem zhZ{f g:FS}{ρ:Ev}{s s':Sto}{d:D}(h:f ρ s=.ok (.rt d) s'):zA f g ρ s=.ok (.rt d) s':=by simp[h]
theorem jK{all:List D}{body:D->Ev->Sto->R Fl}(I:Nat->Ev->Sto->Prop):∀(xs:List D)(k:Nat),(∀j x,xs[j]? = some x->∀ ρ s,I (k+j) ρ s->∃ ρ' s',body x ρ s=.ok (.nx ρ') s'/\I (k+j+1) ρ' s')-> ∀ ρ s,I k ρ s->∃ ρ' s',wE [] all body xs ρ s=.ok (.nx ρ') s'/\I (k+xs.length) ρ' s'
 | [],k,_,ρ,s,h=>⟨ρ,s,by simp[wE,okG],h⟩ | x::xs,k,hb,ρ,s,h=>by
  obtain⟨ρ1,s1,e1,h1⟩:=hb 0 x (by simp) ρ s h;obtain⟨ρ2,s2,e2,h2⟩:=jK (all:=all) I xs (k+1) (λj y hy ρ s hi=>by
   have e:k+1+j=k+(j+1):=by omega
   rw[e]at hi ⊢;exact hb (j+1) y (by simpa using hy) ρ s hi) ρ1 s1 h1;refine⟨ρ2,s2,by simp[wE,okG,e1,e2],?_⟩;have e:k+(x::xs).length=k+1+xs.length:=by simp;omega
  rw[e];exact h2
theorem z4S{n j:Nat}{x:D}(h:(ye n)[j]? = some x):j<n/\x=.int j:=by
 have hj:j<n:=by
  have:=(_d.mp h).1;simpa[ye] using this
 refine⟨hj,?_⟩;simp only[ye,_S,_cP hj,_H,_u]at h;exact h.symm
theorem z8f {n:Nat} {x:D} (h:x∈ye n):∃j:Nat,j<n/\x=.int j:=by
 obtain⟨j,hj,e⟩:=_z.mp h;have:=z4S (n:=n) (j:=j) (x:=x) (by rw[_e hj,e]);exact⟨j,this.1,this.2⟩
theorem wm:∀(ns:List Int),D.flat.flats (ns.map D.int)=true
 | []=>rfl | n::ns=>by simp[D.flat.flats,D.flat,wm ns]
theorem jg(i:Int):(D.int i).flat=true:=rfl
theorem uk:∀{xs:List D}{d:D},D.flat.flats xs=true->d∈xs->d.flat=true
 | x::xs,d,f,h=>by
  simp only[D.flat.flats,_T]at f;rcases _p.mp h with rfl | h;·exact f.1
  ·exact uk f.2 h
theorem vo.flatten{mg:Gm}{H H':Hp}{Y Y':List Addr}{ys:List D}{c:Addr}(k:∀b o,H b=some o->(∀vs,o≠.lst vs)->(∀kvs,o≠.dT kvs)->(∀kvs,kvs≠[]->o≠.dK kvs)->H' b=some o)(f:D.flat.flats ys=true)(e:H' c=H c)(ha:c∈Y)(ro:∀b,Own H Y b->b∉Y)(w:∀b vs,b∉Y->H b=some (.lst vs)->H' b=some (.lst vs))(h:vo mg H Y ys c):vo mg H' Y' ys c:=by
 rcases h with⟨vs,h1,h2⟩ | ⟨kvs,h1,h2⟩ | ⟨o,kvs,ys,h1,h2⟩ | ⟨kvs,g,h1,h2⟩ | ⟨o,kvs,ys,h1,e1,h2,fz⟩;·exact .inl ⟨vs,e.trans h1,h2.flatten k f⟩
 ·exact .inr (.inl ⟨kvs,e.trans h1,h2⟩)
 ·exact .inr (.inr (.inl ⟨o,kvs,ys,e.trans h1,h2⟩))
 ·refine .inr (.inr (.inr (.inl ⟨kvs,g,e.trans h1,h2.imp (λzs vs k' hm q=>q.flatten k ?_) (λq b vs hm=>w b vs (ro b ⟨c,ha,kvs,q,h1,hm⟩)) λb o vs q=>k b _ q (by intro vs z;cases z) (by intro vs z;cases z) (by intro vs g z;cases z)⟩)));rcases hm with hm | hm
  ·have:=uk f hm;simp only[D.flat,D.flat.flats,_cx,_bN]at this;exact this
  ·have:=uk f hm;simp only[D.flat,D.flat.flats,_cx,_bN]at this;exact this
 ·subst e1;have f:D.flat.flats ys=true:=by simpa[D.flat.flats,D.flat] using f
  refine .inr (.inr (.inr (.inr ⟨o,kvs,ys,e.trans h1,rfl,h2.imp (λzs vs k' hm q=>q.flatten k ?_) (λq b vs hm z=>(h2.fz fz.1 hm z).elim) λb o vs q=>k b _ q (by intro vs z;cases z) (by intro vs z;cases z) (by intro vs g z;cases z),fz⟩)));rcases hm with hm | hm
  ·have:=uk f hm;simp only[D.flat,D.flat.flats,_cx,_bN]at this;exact this
  ·have:=uk f hm;simp only[D.flat,D.flat.flats,_cx,_bN]at this;exact this
end Dd
namespace L2
def zdu(n:Nat):List V:=(List.range n).map λk=>V.int ((k:Nat):Int)
theorem z0m:∀{xs:List V}{us:List Value},us.length=xs.length->(∀(j:Nat) u,us[j]? = some u->∃x,xs[j]? = some x/\yg x u)->yd xs us
 | [],[],_,_=>.nil | [],_::_,h,_=>by simp at h | _::_,[],h,_=>by simp at h | x::xs,u::us,h,k=>by
  obtain⟨y,e,r⟩:=k 0 u (by simp);have:y=x:=by simpa using e.symm
  subst this;exact .cons r (z0m (by simpa using h) λj v hv=>k (j+1) v (by simpa using hv))
theorem z4N {X:Cx} {a:Expr} {ta:TA} {p p2 pos pos2:Pos} (hc:X.calm=true) (hg:Gl X "list") (hm:X.mg "list"=none) (hg2:Gl X "range") (hm2:X.mg "range"=none) (ha:PA X [a] ta) (hs2:starEach [a] X.env=[(false,eval a X.env)]:=by rfl) (hs:starEach [.Call (.Name "range" p2) [a] [] pos2] X.env=(false,eval (.Call (.Name "range" p2) [a] [] pos2) X.env)::starEach [] X.env:=by rfl) (hpl:(backTo pos (starEach [] X.env)).any (·.1)=false:=by rfl): PE X (.Call (.Name "list" p) [.Call (.Name "range" p2) [a] [] pos2] [] pos) (λO H Q=>ta O H λvs H1=>∃j:Int,vs=[.int j]/\0<=j/\j<=1000/\∀l,H1 l=none->Q (.ref l) (upd H1 l (.lst (zdu j.toNat)))):=by
 intro pins s O H Q I h;refine _aI (kQ I hg hm (u:=.type "list") (by decide +kernel) ?_ (by decide) (by decide));refine _ao ?_ hs hpl;rw[hs];show wpAny _ _ (spliced ((false,eval (.Call (.Name "range" p2) [a] [] pos2) X.env)::backTo pos (starEach [] X.env))) _ _ s;refine _bX (_aI (kQ I hg2 hm2 boot_range (_ao (thn (ha pos2 pins s O H _ I h) λus s1 ⟨vs,H1,I1,r1,q1⟩=>?_) hs2 rfl) (by decide) (by decide)));obtain⟨j,e,q0,q2,q⟩:=q1;subst e;obtain⟨u,rfl,⟨t,rfl⟩⟩:=vals1 r1;refine call_range_1 (_dc ?_);have hsz:Builtin.Range.rangeSize 0 j 1=(j.toNat:Int):=by rw[rangeSize_one];split<;>omega
 refine call_list_range (I.ok.hd hc) (IsRange.new ..) (small_one (by omega) (by omega) (by omega) (by omega)) hsz (by omega) λh' tk acc c' hk hS hacc=>?_;have I2:Inv X pins O H1 {s1 with heap:=s1.heap.push {cls:=.type "range",data:=.fields #[.int 0 s1.toks,.int j t,.int 1 (s1.toks+1)]},toks:=s1.toks+1+1}:=I1.kept λb o e=>_c _ e;have hl:(zdu j.toNat).length=j.toNat:=by simp[zdu]
 have hv:yd (zdu j.toNat) acc.toList:=z0m (by simp[hacc.1,hl]) λi v hv=>by
  obtain⟨tk2,rfl⟩:=hacc.2 i v (by simpa using hv);have hi:i<j.toNat:=by
   have:=(_d.mp hv).1;simp[hacc.1]at this;omega
  exact⟨.int i,by simp[zdu,hi],⟨tk2,by simp⟩⟩
 refine⟨.ref _,upd H1 _ (.lst (zdu j.toNat)),I2.laid (t':=tk) hk (_h _) ?_,rfl,q _ (I2.hok.fresh (_h _))⟩;exact⟨by rw[hl];exact _ad (show j.toNat<=1000 by omega) (by decide),acc.toList,c',hv,by simpa using hS⟩
end L2
namespace Dd
open L2
section
variable {X:Cx}{E:XK}{a:Expr}{pos:Pos}
theorem zcc{mg:Gm}{H:Hp}{Y:List Addr}(n:Nat):zm mg H Y (ye n) (zdu n):=by
 unfold ye zdu;induction (List.range n) with
 | nil=>exact zm.nil | cons k ks ih=>exact zm.cons yk ih
def eLR(f:FA):FE:=fun ρ s=>(f ρ s).bind λds s1=>match ds with
 | [.int j]=>if 0<=j/\j<=1000 then .ok (.lst (ye j.toNat)) s1 else .no | _=>.no
theorem z66{p p2 pos2:Pos}{f:FA}(hc:X.calm=true)(hg:Gl X "list")(hm:X.mg "list"=none)(hg2:Gl X "range")(hm2:X.mg "range"=none)(ha:RA X E [a] f) (hs2:starEach [a] X.env=[(false,eval a X.env)]:=by rfl) (hs:starEach [.Call (.Name "range" p2) [a] [] pos2] X.env=(false,eval (.Call (.Name "range" p2) [a] [] pos2) X.env)::starEach [] X.env:=by rfl)(hpl:(backTo pos (starEach [] X.env)).any (·.1)=false:=by rfl): RE X E (.Call (.Name "list" p) [.Call (.Name "range" p2) [a] [] pos2] [] pos) (eLR f):= zQ (z4N hc hg hm hg2 hm2 ha hs2 hs hpl).freeze λO H Q ⟨Y,ρ,s,r,en,h⟩=>by
  unfold eLR at h;refine⟨Y,ρ,s,r,en,(okR.bind (Dn:=zm (gm X)) h).imp λvs H1 ⟨Y1,s1,ds,stp,dn,h1⟩=>?_⟩;split at h1
  ·rename_i j;split at h1
   ·rename_i hj;obtain⟨v,rfl,d1⟩:=jV dn;cases zN d1;exact⟨j,rfl,hj.1,hj.2,vc stp.rep h1 (zcc _)⟩
   ·exact h1.elim
  ·exact h1.elim
@[simp] theorem zj8 (f:FA)(ρ:Ev)(s:Sto):eLR f ρ s=(f ρ s).bind λds s1=>match ds with
 | [.int j]=>if 0<=j/\j<=1000 then .ok (.lst (ye j.toNat)) s1 else .no | _=>.no:=id rfl
end
def wv(ft:FT)(fb:FS):Nat->Ev->Sto->R Fl
 | 0,_,_=>.no | k+1,ρ,s=>(ft ρ s).bind λb s1=>if b=true then (fb ρ s1).bind λfl s2=>match fl with
   | .nx ρ'=>wv ft fb k ρ' s2 | .ct ρ'=>wv ft fb k ρ' s2 | .bk ρ'=>.ok (.nx ρ') s2 | .rt d=>.ok (.rt d) s2 else .ok (.nx ρ) s1
theorem ki{ft:FT}{fb:FS}:∀{k:Nat}{ρ:Ev}{s:Sto},wv ft fb k ρ s≠.no->wv ft fb (k+1) ρ s=wv ft fb k ρ s
 | 0,ρ,s,h=>absurd rfl h | k+1,ρ,s,h=>by
  rw[wv]at h ⊢;conv=>rhs;rw[wv]
  cases e:ft ρ s with
  | no=>rfl | ex c t=>rfl | ok b s1=>
   rw[e]at h;simp only[Rb]at h ⊢;cases b with
   | false=>rfl | true=>
    rw[_f rfl]at h ⊢;rw[_f rfl];cases e2:fb ρ s1 with
    | no=>rfl | ex c t=>rfl | ok fl s2=>
     rw[e2]at h;simp only[Rb]at h ⊢;cases fl with
     | nx ρ'=>exact ki h | ct ρ'=>exact ki h | bk ρ'=>rfl | rt d=>rfl
theorem z76{ft:FT}{fb:FS}{k m:Nat}{ρ:Ev}{s:Sto}(h:wv ft fb k ρ s≠.no)(hm:k<=m):wv ft fb m ρ s=wv ft fb k ρ s:=by induction hm with
 | refl=>rfl | step _ ih=>rw[ki (by rw[ih];exact h),ih]
open Classical in
def z22(ft:FT)(fb:FS):FS:=fun ρ s=>if h:∃k,wv ft fb k ρ s≠.no then wv ft fb h.choose ρ s else .no
theorem z7h{ft:FT}{fb:FS}{k:Nat}{ρ:Ev}{s:Sto}{r:R Fl}(h:wv ft fb k ρ s=r)(hr:r≠.no):z22 ft fb ρ s=r:=by
 subst h;have hx:∃k,wv ft fb k ρ s≠.no:=⟨k,hr⟩;unfold z22;rw[dif_pos hx];rcases Nat.le_total k hx.choose with z | z;·exact z76 hr z
 ·exact (z76 hx.choose_spec z).symm
theorem z9E {X:Cx} {E:XK} {c:Expr} {body:List Stmt} {pos:Pos} {ft:FT} {fb:FS} (hp:PassesOwn (model X.prog X.w) X.A X.env X.xe) (hc:RT X E c ft) (hb:RSs X E body fb):RS X E (.While c body [] pos) (z22 ft fb):= wq (zcR hp hc hb) λD O H ⟨Y,ρ,s,r,en,h⟩=>by
  unfold z22 at h;split at h
  ·rename_i hx;refine⟨λm O H=>∃Y ρ s,Rep (gm X) H Y s/\wG (gm X) H Y ρ O/\okR (gm X) E H Y (FlD (gm X)) (wv ft fb m ρ s) (z35 D),⟨_,Y,ρ,s,r,en,h⟩,?_⟩;rintro m O H ⟨Y,ρ,s,r,en,h⟩;cases m with
   | zero=>exact h.elim | succ m=>
    rw[wv]at h;refine⟨Y,ρ,s,r,en,(okR.bind (Dn:=bD) h).imp λb H1 ⟨Y1,s1,b',stp,eb,h1⟩=>?_⟩;cases (show b'=b from eb);cases b with
    | false=>
     rw[_i (by decide)]at h1 ⊢;exact okR.here (b:=FlV.nx O) (Q:=z35 D) h1 stp.rep (en.mono stp) | true=>
     rw[_f rfl]at h1 ⊢;refine⟨λO' H'=>∃Y ρ s,Rep (gm X) H' Y s/\wG (gm X) H' Y ρ O'/\okR (gm X) E H' Y (FlD (gm X)) (wv ft fb m ρ s) (z35 D),λO' H' q=>⟨m,_aR _,q⟩,Y1,ρ,s1,stp.rep,en.mono stp,(okR.bind (Dn:=FlD (gm X)) h1).imp λfv H2 ⟨Y2,s2,fl,stp2,dn,h2⟩=>?_⟩;cases fl with
     | nx ρ'=> cases fv with
      | nx O'=>exact⟨Y2,ρ',s2,stp2.rep,dn,h2⟩ | _=>exact (show False from dn).elim
     | ct ρ'=> cases fv with
      | ct O'=>exact⟨Y2,ρ',s2,stp2.rep,dn,h2⟩ | _=>exact (show False from dn).elim
     | bk ρ'=> cases fv with
      | bk O'=>exact okR.here (b:=FlV.nx O') (Q:=z35 D) (a:=Fl.nx ρ') (s:=s2) h2 stp2.rep dn | _=>exact (show False from dn).elim
     | rt d=> cases fv with
      | rt v=>exact okR.here (b:=FlV.rt v) (Q:=z35 D) (a:=Fl.rt d) (s:=s2) h2 stp2.rep dn | _=>exact (show False from dn).elim
  ·exact h.elim
end Dd
namespace PySem
open PySem.AutoSeq1 (wpAny_loadPart')
open MeetsSeq MeetsSeq2 SeqAt
theorem z7P{M:Model}{A:Around}{E:Value->Shared->Prop}{s:Shared}{β:Type}(f:Nat->β->Sem (ForInStep β))(I:Nat->β->Shared->Prop)(Q:β->Shared->Prop)(n:Nat) (turn:∀i b s,i<n->I i b s->wpAny M A (f i b) (λr s'=>match r with | .yield b'=>I (i+1) b' s' | .done b'=>Q b' s') E s) (fin:∀b s,I n b s->Q b s)(b:β)(h:I 0 b s):wpAny M A (forIn ([0:n]:Std.Legacy.Range) b f) Q E s:=by
 rw[Std.Legacy.Range.forIn_eq_forIn_range'];simp only[Std.Legacy.Range.size,Nat.sub_zero,Nat.add_sub_cancel,Nat.div_one];refine _cq f (λqu b s'=>∃i,qu=List.range' i (n-i)/\i<=n/\I i b s') _ ?_ ?_ _ _ ⟨0,by simp,_Y _,h⟩
 ·rintro x qu b s' ⟨i,hr,hi,hI⟩;have hlt:i<n:=by
   rcases Nat.lt_or_ge i n with h | h;·exact h
   ·rw[Nat.sub_eq_zero_of_le h]at hr;simp at hr
  obtain⟨rfl,hrest⟩:x=i/\qu=List.range' (i+1) (n-(i+1)):=by
   have e:n-i=(n-(i+1))+1:=by omega
   rw[e,List.range'_succ]at hr;injection hr with h1 h2;exact⟨h1,h2⟩
  refine _D (turn x b s' hlt hI) (λr s2 hr=>?_) λ_ _ h'=>h';cases r with
  | done b'=>exact hr | yield b'=>exact⟨x+1,hrest,hlt,hr⟩
 ·rintro b s' ⟨i,hr,hi,hI⟩;have:i=n:=by
   have:=_aq List.length hr;simp at this;omega
  subst this;exact fin _ _ hI
theorem z1m (l:Addr) (items:Array Value) (n:Nat) (dd:Option Addr) (sl:Array (Option Value)) (x:Value) (e:Value->Bool) (j:Nat) (hj:j<items.size) (hit:e items[j]=true) (hno:∀m (hm:m<items.size),m<j->e items[m]=false): Meets (Builtin.«tuple.index» ⟨[.ref l,x],[]⟩) (λA R s=>s.heap.get? l=some {cls:=.type "tuple",dict:=dd,data:=.seq items n,slots:=sl}/\(∀y,y∈items->EqAt A.in1 s y x (e y))/\R (.ok (.ret (.int j s.toks))) {s with toks:=s.toks+1}):= .of_wp λprog w A R s h=>by
  obtain⟨hp,g,d,tk,os⟩:=s;obtain⟨hl,he,h⟩:=h;have hm:min items.size items.size=items.size:=Nat.min_self _;wp_walk using _bU hl,z7P _ (λi b s'=>b.1=none/\s'=⟨hp,g,d,tk,os⟩/\i<=j) _ _;case turn=>
   rintro i ⟨b1,b2⟩ s' hi ⟨hb,rfl,hij⟩;simp only at hb;subst hb;rw[hm]at hi;rw[Array.getElem?_eq_getElem hi];refine _a (he _ (Array.getElem_mem hi) prog w _ _ ?_);rcases Nat.lt_or_eq_of_le hij with lt | rfl
   ·rw[hno i hi lt];wp_walk;exact⟨rfl,rfl,lt⟩
   ·rw[hit];wp_walk;exact⟨_,rfl,h⟩
  case fin=>
   rintro⟨b1,b2⟩ s' ⟨hb,rfl,hij⟩;rw[hm]at hij;omega
  case h=>exact⟨rfl,rfl,_Y _⟩
end PySem
namespace L2
section
variable {X:Cx}{o e:Expr}{to:TE}{t:TA}{name:Str}{apos cpos:Pos}{id:String}{r:V->List V->Hp->VK->Prop}
theorem zgu(slot:Slot "tuple" name id)(hty:typeOf (.builtin id)=pure (.type "method_descriptor"))(hm:MtR X id r)(ho:PE X o to)(ha:PA X [e] t) (hbase:attributeBase o name X.env (eval o X.env)=eval o X.env:=by rfl) (hfew:((backTo cpos (starEach [e] X.env)).all (λx=>!x.1)&&(backToKw cpos (keywordEach [] X.env)).all (λx=>x.1.isSome) && decide ([e].length+([]:List Keyword).length+(if ([]:List Keyword).isEmpty then 0 else 1)<30))=true:=by rfl) (hline:(apos.endLine==cpos.line)=true:=by rfl)(hs:starEach [e] X.env=(false,eval e X.env)::starEach [] X.env:=by rfl)(hplain:(backTo cpos (starEach [] X.env)).any (·.1)=false:=by rfl): PE X (.Call (.Attribute o name apos) [e] [] cpos) (λO H Q=>to O H λx H1=>(∃p vs,x=.ref p/\H1 p=some (.tup vs))/\t O H1 λxs H2=>r x xs H2 Q):=by
 intro pins s O H Q I h;refine wpAny_Call_method_late hbase hfew hline rfl (thn (ho pins s O H _ I h) λv s1 ⟨x,H1,I1,r1,ty,q1⟩=>?_);obtain⟨p,vs,rfl,hp⟩:=ty;cases r1;obtain⟨_,its,_,ob,e1,c1,d1,n,w1⟩:=I1.hok p _ hp;refine⟨"tuple",id,PySem.F.plainAttrs_tuple,slot,hty,⟨ob,e1,c1⟩,λa e=>?_,?_⟩
 ·cases e;exact⟨ob,e1,d1⟩
 have hA:=ha cpos pins s1 O H1 _ I1 q1;rw[hs]at hA ⊢;refine _bt (by show (false||(backTo cpos (starEach [] X.env)).any (·.1))=false;rw[hplain]<;>rfl) (_cA ?_);exact thn hA λus s2 ⟨vs,H2,I2,r2,q2⟩=>hm pins s2 O H2 (.ref p) vs _ us Q I2 rfl r2 q2
theorem kw:∀{ns:List Int}{its:List Value},yd (ns.map V.int) its->IntsAre its ns
 | [],_,.nil=>.nil | n::ns,_,.cons r rs=>by
  obtain⟨t,rfl⟩:=r;exact .cons n t (kw rs)
def zkj:V->List V->Hp->VK->Prop:=λx vs H Q=>∃(p:Addr)(ns:List Int)(k:Int),x=.ref p/\vs=[.int k]/\H p=some (.tup (ns.map V.int))/\k∈ns/\Q (.int (ns.idxOf k:Nat)) H
theorem z6b:MtR X "tuple.index" zkj:=by
 intro pins s O H x vs v us Q I rx rv h;obtain⟨p,ns,k,rfl,rfl,hp,hk,q⟩:=h;cases rx;obtain⟨u,rfl,⟨t,rfl⟩⟩:=vals1 rv;obtain⟨_,its,r,ob,e1,c1,d1,n,w1⟩:=I.hok p _ hp;have hi:=kw r;have hlen:=hi.length;have hj:ns.idxOf k<ns.length:=List.idxOf_lt_length_iff.mpr hk;obtain⟨cls,dd,data,sl⟩:=ob;simp only at c1 d1 w1;subst c1 d1 w1;refine call_meets PySem.F.slot_tuple_index ⟨_,e1,rfl⟩ PySem.F.entry_tuple_index (PySem.F.args_tuple_index_2 _ _) (z1m p its.toArray n _ sl (.int k t) (isInt k) (ns.idxOf k) (by simpa[hlen] using hj) ?_ ?_) ⟨e1,λy hy=>(eq_isInt k t hi y (by simpa using hy)).at _ _,?_⟩
 ·show isInt k its[ns.idxOf k]=true;rw[isInt_at k hi _ (by omega) hj];simpa using List.getElem_idxOf hj
 ·intro j hjs hlt;show isInt k its[j]=false;rw[isInt_at k hi j (by simpa using hjs) (by omega)];exact ne_of_lt_idxOf hlt _
 ·exact⟨.int (ns.idxOf k:Nat),H,I.kept (λb o e=>e),⟨s.toks,rfl⟩,q⟩
end
end L2
namespace Dd
open L2
section
variable {X:Cx}{E:XK}{o e:Expr}{pos:Pos}
def zcS(fo fv:FE):FE:=fun ρ s=>(fo ρ s).bind λo s1=>match o with
 | .tup ds=>(fv ρ s1).bind λd s2=>match intsOf ds,d with
  | some ns,.int k=>if k∈ns then .ok (.int (ns.idxOf k:Nat)) s2 else .no | _,_=>.no
 | _=>.no
theorem z6a{apos:Pos}{fo fv:FE}(ho:RE X E o fo)(hv:RE X E e fv)(hbase:attributeBase o "index" X.env (eval o X.env)=eval o X.env:=by rfl) (hfew:((backTo pos (starEach [e] X.env)).all (λx=>!x.1)&&(backToKw pos (keywordEach [] X.env)).all (λx=>x.1.isSome) && decide ([e].length+([]:List Keyword).length+(if ([]:List Keyword).isEmpty then 0 else 1)<30))=true:=by rfl) (hline:(apos.endLine==pos.line)=true:=by rfl)(hs:starEach [e] X.env=(false,eval e X.env)::starEach [] X.env:=by rfl)(hplain:(backTo pos (starEach [] X.env)).any (·.1)=false:=by rfl): RE X E (.Call (.Attribute o "index" apos) [e] [] pos) (zcS fo fv):= zQ (zgu PySem.F.slot_tuple_index PySem.F.type_tuple_index z6b ho (ut hv z0G hs) hbase hfew hline hs hplain) λO H Q ⟨Y,ρ,s,r,en,h⟩=>by
  unfold zcS at h;refine⟨Y,ρ,s,r,en,(okR.bind (Dn:=Den (gm X)) h).imp λov H1 ⟨Y1,s1,od,stp,dn,h1⟩=>?_⟩;cases od with
  | tup ds=>
   simp only at h1;have hty:∃p vs,ov=.ref p/\H1 p=some (.tup vs):=by
    simp only[Den]at dn;obtain⟨a,vs,rfl,e1,_⟩:=dn;exact⟨a,vs,rfl,e1⟩
   refine⟨hty,⟨Y1,ρ,s1,stp.rep,en.mono stp,(okR.bind (Dn:=Den (gm X)) h1).imp λv H2 ⟨Y2,s2,d,stp2,dn2,h2⟩=>?_⟩⟩;split at h2
   ·rename_i ns k ei;split at h2
    ·rename_i hk;have dov:=dn.mono stp2;simp only[Den]at dov;obtain⟨a,vs,rfl,e1,e2⟩:=dov;rw[qX ei]at e2;cases qY e2;cases zN dn2;exact⟨a,ns,k,rfl,rfl,e1,hk,okR.here h2 stp2.rep yk⟩
    ·exact h2.elim
   ·exact h2.elim | _=>exact h1.elim
@[simp] theorem zgs (fo fv:FE)(ρ:Ev)(s:Sto):zcS fo fv ρ s=(fo ρ s).bind λo s1=>match o with
 | .tup ds=>(fv ρ s1).bind λd s2=>match intsOf ds,d with
  | some ns,.int k=>if k∈ns then .ok (.int (ns.idxOf k:Nat)) s2 else .no | _,_=>.no
 | _=>.no:=id rfl
end
def zf4(P:Program)(w:World)(K:W.Frag)(mg:Str->Option Value)(x:Str)(tb:List (Str×Str)):Prop:= ∃a o es ep,mg x=some (.ref a)/\(a==sysModules)=false/\K.lookup a=some o/\o.ExactDict/\o.data=.dict es ep/\PySem.KeysOf (zy P w) es/\ (∀k y,tb.lookup k=some y->∃f,findBy (zy P w).is es (.inr k)=some (.ref f)/\mg y=some (.ref f))/\∀k,tb.lookup k=none->findBy (zy P w).is es (.inr k)=none
theorem z3Y{P:Program}{w:World}{k:Str}{u:Value}(r:yg (.str k) u):(zy P w).is (.inr k) u=true:=by
 obtain⟨t,e⟩:=(show ∃t,u=Value.str k t from r);subst e;exact jA k t
section
variable {X:Cx}{E:XK}{e a b c:Expr}{es:List Expr}{pos:Pos}{CX:CXT}
theorem z6F{pins:List (Addr×Obj)}{O:L2.St}{H:Hp}{s:Shared}{o:Obj}{d:Addr}{en:Array DictEntry}{ep:Nat}(I:Inv X pins O H s)(hk:X.K.lookup d=some o)(hx:o.ExactDict)(hd:o.data=.dict en ep)(ks:PySem.KeysOf (zy X.prog X.w) en): s.heap.MapOf (zy X.prog X.w) d (λk=>findBy (zy X.prog X.w).is en k):=⟨o,en,ep,I.kIn d o hk,hx,hd,ks,λ_=>rfl⟩
def ziL(tb:List (Str×Str))(f:FE):FE:=fun ρ s=>(f ρ s).bind λd s1=>match d with
 | .str k=>match tb.lookup k with | some y=>.ok (.fn y) s1 | none=>.no
 | _=>.no
theorem zjb{x:Str}{p:Pos}{tb:List (Str×Str)}{f:FE}(hT:zf4 X.prog X.w X.K X.mg x tb)(hg:Gl X x)(he:RE X E e f)(hs:z62 e)(hdb:(x==("__debug__":Str))=false:=by decide): RE X E (.Subscript (.Name x p) e pos) (ziL tb f):=by
 obtain⟨d,o,en,ep,hm,hsm,hk,hx,hd,ks,h1,h2⟩:=hT;refine zQ (zhp (r:=λv y H Q=>v=.ref d/\∃k g,y=.str k/\findBy (zy X.prog X.w).is en (.inr k)=some (.ref g)/\Q (.ref g) H) ?_ (z3a hg hm (show yg (.ref d) (.ref d) from rfl) hdb) he hs) λO H Q ⟨Y,ρ,s,r,en',h⟩=>?_
 ·intro value slice pins s O H v y u u2 Q I rx ry h hs2;obtain⟨rfl,k,g,rfl,hf,q⟩:=h;cases rx;have mp:=z6F I hk hx hd ks;exact _b8 (x:=.ref g) mp.typeIs PySem.F.slot_dict_getitem.lookup (wpAny_getItem_of (Q:=λr s'=>r=.ref g/\EP X pins O Q r s') (z3Y ry) mp hf ⟨rfl,.ref g,H,I.tok _,rfl,q⟩) hs2
 ·unfold ziL at h;refine⟨Y,ρ,s,r,en',(okR.bind (Dn:=Den (gm X)) h).imp λv H1 ⟨Y1,s1,dd,stp,dn,q⟩=>?_⟩;split at q
  ·rename_i k;split at q
   ·rename_i y hy;obtain⟨g,e1,e2⟩:=h1 k y hy;cases jP dn;exact⟨rfl,k,g,rfl,e1,okR.here (b:=V.ref g) q stp.rep (by simp only[Den];exact⟨g,rfl,e2⟩)⟩
   ·exact q.elim
  ·exact q.elim
def z7f(tb:List (Str×Str))(neg:Bool)(f:FE):FE:=fun ρ s=>(f ρ s).bind λd s1=>match d with
 | .str k=>.ok (.bl (xor neg (tb.lookup k).isSome)) s1 | _=>.no
theorem zfF{x:Str}{p:Pos}{tb:List (Str×Str)}{f:FE}(hT:zf4 X.prog X.w X.K X.mg x tb)(hg:Gl X x)(he:RE X E e f)(hm':behindInMarks .In (.Name x p)=false:=by rfl)(hdb:(x==("__debug__":Str))=false:=by decide): RE X E (.Compare e [.In] [.Name x p] pos) (z7f tb false f):=by
 obtain⟨d,o,en,ep,hm,hsm,hk,hx,hd,ks,h1,h2⟩:=hT;refine zQ (zaL (r:=λy v H Q=>v=.ref d/\∃k,y=.str k/\Q (.bl (findBy (zy X.prog X.w).is en (.inr k)).isSome) H) ?_ he (z3a hg hm (show yg (.ref d) (.ref d) from rfl) hdb) hm') λO H Q ⟨Y,ρ,s,r,en',h⟩=>?_
 ·intro pins s O H y v u u2 Q I ry rx h;obtain⟨rfl,k,rfl,q⟩:=h;cases rx;exact wpAny_in_of (z3Y ry) hsm (z6F I hk hx hd ks) ⟨.bl _,H,I.tok _,rfl,q⟩
 ·unfold z7f at h;refine⟨Y,ρ,s,r,en',(okR.bind (Dn:=Den (gm X)) h).imp λv H1 ⟨Y1,s1,dd,stp,dn,q⟩=>?_⟩;split at q
  ·rename_i k;cases jP dn;have e0:(findBy (zy X.prog X.w).is en (.inr k)).isSome=(tb.lookup k).isSome:=by cases z:tb.lookup k with
    | none=>rw[h2 k z];rfl | some y=>obtain⟨g,e1,_⟩:=h1 k y z;rw[e1];rfl
   exact⟨rfl,k,rfl,okR.here (b:=V.bl _) q stp.rep (by simp[Den,e0])⟩
  ·exact q.elim
def z72(i:Nat)(Ms:List (Str×Mir))(f:FA):FE:=fun ρ s=>match ρ[i]? with
 | some (some (.fn y))=>match Ms.lookup y with
  | some M=>(f ρ s).bind λxs s1=>M xs s1 | none=>.no
 | _=>.no
theorem zfE (i:Nat) {x:Str} {p:Pos} {n:Nat} {Ms:List (Str×Mir)} {f:FA} (F:∀y M,Ms.lookup y=some M->Has X.prog X.w X.K X.mg X.base CX y n M) (hr:z07 n X.A) (hxx:Passes CX X E) (ha:RA X E (e::es) f) (hN:X.N[i]? = some x:=by rfl) (hv:Vis X.env.scope x:=by first | exact Or.inl rfl | exact Or.inr (Or.inl rfl) | exact Or.inr (Or.inr rfl)) (hd:(x==("__debug__":Str))=false:=by decide) (hcd:(x==("__classdict__":Str))=false:=by decide) (he:starEach (e::es) X.env=(false,eval e X.env)::starEach es X.env:=by rfl) (hpl:(backTo pos (starEach es X.env)).any (·.1)=false:=by rfl):RE X E (.Call (.Name x p) (e::es) [] pos) (z72 i Ms f):=by
 intro pins s O H Q I ⟨Y,ρ,st,r,en,h⟩;unfold z72 at h;split at h
 ·rename_i y hy;split at h
  ·rename_i M hM;obtain⟨v,hv1,dv⟩:=en.at_ i (.fn y) hy;simp only[Den]at dv;obtain⟨g,rfl,hmg⟩:=dv;obtain⟨fa,fd,ps,Fk,hb,hk,hm⟩:=F y M hM;have e0:g=fa:=by rw[hmg]at hm;cases hm;rfl
   subst e0;refine _aI (thn (z9G (pos:=p) hN hv hd hcd pins s O H (λv H1=>v=.ref g/\H1=H) I ⟨.ref g,hv1,rfl,rfl⟩) λu s1 ⟨v,H1,I1,r1,e1,e2⟩=>?_);subst e1 e2;cases r1;have hA:=ha pos pins s1 O H1 (λvs H2=>zet (gm X) M (vs++[]) H2 Q E) I1 (vx (k:=fun ρ xs s1=>M xs s1) r en h _ λvs H2 Y2 s2 ds r2 en2 dn2 stp2 h3=>by
    rw[_aQ];exact⟨Y2,s2,ds,r2,dn2,h3⟩);refine W.callWith_K (h₀:=X.base) I1.ok.mod.kin hk (thn hA λus s2 ⟨vs,H2,I2,r2,q⟩=>⟨I2.kIn,?_⟩) he hpl;exact zbg Fk hr hb .nil hxx I2 r2 q
  ·exact h.elim
 ·exact h.elim
@[simp] theorem zks (tb:List (Str×Str))(f:FE)(ρ:Ev)(s:Sto):ziL tb f ρ s=(f ρ s).bind λd s1=>match d with
 | .str k=>match tb.lookup k with | some y=>.ok (.fn y) s1 | none=>.no
 | _=>.no:=id rfl
@[simp] theorem ziM (tb:List (Str×Str))(neg:Bool)(f:FE)(ρ:Ev)(s:Sto):z7f tb neg f ρ s=(f ρ s).bind λd s1=>match d with
 | .str k=>.ok (.bl (xor neg (tb.lookup k).isSome)) s1 | _=>.no:=id rfl
@[simp] theorem zcm (i:Nat)(Ms:List (Str×Mir))(f:FA)(ρ:Ev)(s:Sto):z72 i Ms f ρ s=match ρ[i]? with
 | some (some (.fn y))=>match Ms.lookup y with
  | some M=>(f ρ s).bind λxs s1=>M xs s1 | none=>.no
 | _=>.no:=id rfl
end
theorem yX.cut{mg:Gm}{H H1:Hp}{Y Y1:List Addr}{s1:Sto}(stp:yX mg H Y H1 Y1 s1):yX mg H Y H1 (Y1.take Y.length) (s1.take Y.length):=by
 have fl:∀{ds:List D}{ws:List V},D.flat.flats ds=true->zm mg H1 Y1 ds ws->zm mg H1 (Y1.take Y.length) ds ws:=λf h=>h.flatten (λ_ _ h _ _ _=>h) f;have dk:DkS H1 Y1 H1 (Y1.take Y.length):=λb hb kvs e=>⟨_at hb,e⟩;refine⟨⟨by simp[stp.rep.len],stp.rep.nd.sublist (_bE _ _),λj ys h=>?_,λys h=>stp.rep.flat ys (_at h),λb h z=>stp.rep.own b (dk.own h) (_at z),dk.uq stp.rep⟩,?_,stp.keep,λc h1 h2=>stp.new c (_at h1) h2,stp.mt,stp.dom,λb h=>stp.ow b (dk.own h)⟩
 ·have hj:j<Y.length:=by
   have:=(_d.mp h).1;simp at this;omega
  rw[_aE hj]at h ⊢;obtain⟨c,q1,q2⟩:=stp.rep.cell j ys h;exact⟨c,q1,q2.flatten (λ_ _ h _ _ _=>h) (stp.rep.flat _ (_y h)) rfl (_y q1) stp.rep.own (λ_ _ _ q=>q)⟩
 ·obtain⟨t,ht⟩:=stp.pre;exact⟨[],by rw[<- ht,List.take_append];simp⟩
theorem yX.frzC{mg:Gm}{H H1:Hp}{Y Y1:List Addr}{s1:Sto}{l:Nat}{xs:List D}(stp:yX mg H Y H1 Y1 s1){a:Addr}(hl:Y.length<=l)(hx:s1[l]? = some xs)(e1:Y1[l]? = some a)(ka:IsL H1 a):∃vs,H1 a=some (.lst vs)/\ ∀o,yX mg H Y (upd H1 a (.frz o (.lst vs))) (Y1.take Y.length) (s1.take Y.length)/\Den mg (upd H1 a (.frz o (.lst vs))) (Y1.take Y.length) (.lst xs) (.ref a):=by
 obtain⟨vs,e2,e3⟩:=stp.rep.at_ hx e1 ka;refine⟨vs,e2,λo=>?_⟩;have il:l<Y1.length:=(_d.mp e1).1;have an:a∉Y:=λz=>by
  obtain⟨j,hj,ej⟩:=_z.mp z;obtain⟨t,ht⟩:=stp.pre;have:Y1[j]? = some a:=by rw[<- ht,_r hj,_e hj,ej]
  have:=(_aL stp.rep.nd).mp (((_d.mp this).2).trans ((_d.mp e1).2).symm);omega
 have a0:H a=none:=stp.new a (_y e1) an;have k:∀b u,H1 b=some u->(∀vs,u≠.lst vs)->(∀kvs,u≠.dT kvs)->(∀kvs,kvs≠[]->u≠.dK kvs)->upd H1 a (.frz o (.lst vs)) b=some u:=λb u h hn _ _=>by rw[zn (λz=>by subst z;rw[e2]at h;exact hn vs (_E h).symm)];exact h
 have fl:∀{ds:List D}{ws:List V},D.flat.flats ds=true->zm mg H1 Y1 ds ws->zm mg (upd H1 a (.frz o (.lst vs))) (Y1.take Y.length) ds ws:=λf h=>h.flatten k f;have dk:DkS H1 Y1 (upd H1 a (.frz o (.lst vs))) (Y1.take Y.length):=λb hb kvs e=>by
  by_cases z:b=a;·subst z;rw[zC]at e;cases e
  ·rw[zn z]at e;exact⟨_at hb,e⟩
 have mem:∀{j:Nat}{ys:List D},s1[j]? = some ys->D.flat.flats ys=true:=λe=>stp.rep.flat _ (_y e);refine⟨⟨⟨by simp[stp.rep.len],stp.rep.nd.sublist (_bE _ _),λj ys h=>?_,λys h=>stp.rep.flat ys (_at h),λb h z=>stp.rep.own b (dk.own h) (_at z),dk.uq stp.rep⟩,?_,λb u h n g=>?_,λc h1 h2=>stp.new c (_at h1) h2,λb hb=>?_,λb h=>stp.dom b (z0S h),λb h=>stp.ow b (dk.own h)⟩,?_⟩
 ·have hj:j<Y.length:=by
   have:=(_d.mp h).1;simp at this;omega
  rw[_aE hj]at h ⊢;obtain⟨c,q1,q2⟩:=stp.rep.cell j ys h;refine⟨c,q1,q2.flatten k (mem h) (zn λz=>?_) (_y q1) stp.rep.own (λb vs hb q=>by rw[zn (show b≠a from λz=>hb (z ▸ _y e1))];exact q)⟩;subst z;have:=(_aL stp.rep.nd).mp (((_d.mp q1).2).trans ((_d.mp e1).2).symm);omega
 ·obtain⟨t,ht⟩:=stp.pre;exact⟨[],by rw[<- ht,List.take_append];simp⟩
 ·rw[zn (λz=>by subst z;rw[a0]at h;cases h)];exact stp.keep b u h n g
 ·have ne:b≠a:=λz=>an (z ▸ hb);rcases stp.mt b hb with⟨q1,q2⟩ | ⟨q1,q2,q3⟩;·exact .inl ⟨q1,by rw[IsL,zn ne];exact q2⟩
  ·exact .inr ⟨q1,by rw[IsC,zn ne];exact q2,λo u z=>by rw[zn ne];exact q3 o u z⟩
 ·simp only[Den];exact⟨a,o,vs,rfl,zC,fl (mem hx) e3⟩
def zhd(n:Nat):R D->R D
 | .ok (.loc l) s1=>match s1[l]? with
  | some xs=>if n<=l then .ok (.lst xs) (s1.take n) else .no | none=>.no
 | .ok _ _=>.no | .ex c s1=>.ex c s1 | .no=>.no
def jh(f:FE):FE:=fun ρ s=>zhd s.length (f ρ s)
section
variable {X:Cx}{E:XK}{e:Expr}
theorem z10{f:FE}(h:RE X E e f):RE X E e (jh f):= zQ (PE.freeze h) λO H Q ⟨Y,ρ,s,r,en,h⟩=>by
  refine⟨Y,ρ,s,r,en,?_⟩;unfold jh zhd at h;split at h
  ·rename_i l s1 e1;rw[e1];split at h
   ·rename_i xs ex;split at h
    ·rename_i hl;intro v H1 Y1 stp dn;simp only[Den]at dn;obtain⟨a,rfl,q1,ka⟩:=dn;obtain⟨vs,q2,q3⟩:=stp.frzC (by rw[r.len];exact hl) ex q1 ka;rw[<- r.len]at h;exact⟨a,vs,rfl,q2,λo=>h _ _ _ (q3 o).1 (q3 o).2⟩
    ·exact h.elim
   ·exact h.elim
  ·exact h.elim
  ·rename_i e1;rw[e1];exact h
  ·exact h.elim
end
@[simp] theorem z8x (f:FE)(ρ:Ev)(s:Sto):jh f ρ s=zhd s.length (f ρ s):=id rfl
@[simp] theorem z7s {s:Sto}{xs:List D}:zhd s.length (.ok (.loc s.length) (s++[xs]))=.ok (.lst xs) s:=by simp[zhd]
def z7H(n:Nat):R D->R D
 | .ok (.loc l) s1=>if l<n then .ok (.loc l) (s1.take n) else .ok (.loc l) s1 | .ok d s1=>if d.flat=true then .ok d (s1.take n) else .ok d s1 | r=>r
def zaN(M:Mir):Mir:=λds s=>z7H s.length (M ds s)
theorem zeG{mg:Gm}{M:Mir}{vs:List V}{H:Hp}{Q:VK}{E:XK}(h:zet mg (zaN M) vs H Q E):zet mg M vs H Q E:=by
 obtain⟨Y,s,ds,r,dn,h⟩:=h;refine⟨Y,s,ds,r,dn,?_⟩;unfold zaN z7H at h;split at h
 ·rename_i l s1 e;rw[e];split at h
  ·rename_i hl;intro v H1 Y1 stp dv;rw[<- r.len]at h;refine h v H1 _ stp.cut ?_;simp only[Den]at dv ⊢;obtain⟨a,rfl,e1,ka⟩:=dv;exact⟨a,rfl,by rw[_aE (by rw[r.len];exact hl)];exact e1,ka⟩
  ·exact h
 ·rename_i d s1 hn e;rw[e];split at h
  ·rename_i hf;intro v H1 Y1 stp dv;rw[<- r.len]at h;exact h v H1 _ stp.cut (dv.flatten (λ_ _ h _ _ _=>h) hf)
  ·exact h
 ·exact h
section
variable {P:Program}{w:World}{K:W.Frag}{mg:Str->Option Value}{base:Heap}
theorem Has.tidy{CX:CXT}{x:Str}{n:Nat}{M:Mir}(h:Has P w K mg base CX x n M):Has P w K mg base CX x n (zaN M):=by
 obtain⟨f,fd,ps,F,r⟩:=h;exact⟨f,fd,ps,F.imp λvs H Q E h=>zeG h,r⟩
end
@[simp] theorem zeX (M:Mir)(ds:List D)(s:Sto):zaN M ds s=z7H s.length (M ds s):=id rfl
@[simp] theorem z7X {d:D}{n:Nat}{s1:Sto}(h:d.flat=true):z7H n (.ok d s1)=.ok d (s1.take n):=by cases d<;>first | (simp[D.flat]at h;done) | simp_all[z7H]
def zgQ:D->D->Sto->R D
 | x,.int k,s=>match listOf s x with
  | some xs=>if xs.length*k.toNat<=cap/\-(2 ^ 62)<=k/\k<2 ^ 62 then .ok (.lst (List.replicate k.toNat xs).flatten) s else .no | none=>.no
 | _,_,_=>.no
theorem zm.jo{mg:Gm}{H:Hp}{Y:List Addr}{xs:List D}{vs:List V}(h:zm mg H Y xs vs):∀k:Nat,zm mg H Y (List.replicate k xs).flatten (List.replicate k vs).flatten
 | 0=>by simpa using zm.nil | k+1=>by
  rw[_ag,_ag,_aY,_aY];exact h.append (h.jo k)
section
variable {X:Cx}{E:XK}
theorem zjY:∃r,OpR X (binaryOp .Mult) r/\OpF X E r zgQ:=by
 refine⟨_,zgX.freeze,?_⟩;intro H Y s d1 d2 v1 v2 Q r h1 h2 h;unfold zgQ at h;split at h
 ·rename_i k;cases zN h2;split at h
  ·rename_i xs hx;split at h
   ·rename_i hl;obtain⟨l,vs,e,q1,q2⟩:=zF r hx h1;exact⟨l,k,vs,e,rfl,q1,by omega,by omega,by rw[q2.length];exact qa hl.1,vc r h (q2.jo _)⟩
   ·exact h.elim
  ·exact h.elim
 ·exact h.elim
end
section
variable {X:Cx}{E:XK}{e a b c:Expr}{es:List Expr}{pos:Pos}{CX:CXT}
theorem z5S{x:Str}{p:Pos}{n:Nat}{M:Mir}(F:Has X.prog X.w X.K X.mg X.base CX x n M)(hr:z07 n X.A)(hx:Passes CX X E)(hg:Gl X x)(hdb:(x==("__debug__":Str))=false:=by decide):RE X E (.Call (.Name x p) [] [] pos) (zd M zi):=by
 obtain⟨fa,fd,ps,F,hb,hk,hm⟩:=F;refine zQ (zbq F hr hg hm hk hb .nil hx hdb) λO H Q ⟨Y,ρ,s,r,en,h⟩=>?_;exact⟨Y,s,[],r,zm.nil,h⟩
end
section
variable {P:Program}{w:World}{K:W.Frag}{mg:Str->Option Value}{base:Heap}{CX:CXT}{n:Nat}
def zbe:List DictEntry->List (Str×Value)
 | []=>[] | e::es=>match e.key with
  | .str k _=>(k,e.val)::zbe es | _=>zbe es
theorem jY {P:Program} {w:World} {k:Str}:∀{es:List DictEntry},findBy (zy P w).is es.toArray (.inr k)=(zbe es).lookup k
 | []=>by simp[findBy,zbe] | e::es=>by
  have ih:=jY (P:=P) (w:=w) (k:=k) (es:=es);simp only[findBy,List.find?_toArray]at ih ⊢;rw[_bh];cases hk:e.key with
  | str y t=>
   simp only[zbe,hk,_W];by_cases z:k=y
   ·subst z;simp[z0r]
   ·have:(zy P w).is (.inr k) (.str y t)=false:=by
     rw[z1B];cases q:z1s (.inr k) (.str y t) with
     | false=>rfl | true=>
      rcases zS q with⟨i,u,h1,h2⟩ | ⟨x,u,h1,h2⟩;·cases h2
      ·cases h1;cases h2;exact absurd rfl z
    rw[this,show (k==y)=false from by simpa using z];exact ih | _=>
   have:(zy P w).is (.inr k) e.key=false:=by
    rw[z1B];cases q:z1s (.inr k) e.key with
    | false=>rfl | true=>
     rcases zS q with⟨i,u,h1,h2⟩ | ⟨x,u,h1,h2⟩;·cases h1
     ·rw[hk]at h2;cases h2
   rw[hk]at this;simp only[zbe,hk,this];exact ih
theorem zbx:∀y M,([]:List (Str×Mir)).lookup y=some M->Has P w K mg base CX y n M:=λy M h=>by simp at h
theorem jB{x:Str}{M0:Mir}{Ms:List (Str×Mir)}(h:Has P w K mg base CX x n M0)(hs:∀y M,Ms.lookup y=some M->Has P w K mg base CX y n M):∀y M,((x,M0)::Ms).lookup y=some M->Has P w K mg base CX y n M:=λy M e=>by
 rw[_W]at e;split at e
 ·rename_i hb;cases e;have:y=x:=by simpa using hb
  subst this;exact h
 ·exact hs y M e
end
def Sub(K:W.Frag)(h:Heap):Prop:=∀p∈K,h.get? p.1=some p.2
theorem Sub.in_{K:W.Frag}{h:Heap}(s:Sub K h):K.In h:=λa o e=>by induction K with
 | nil=>simp at e | cons p K ih=>
  obtain⟨b,u⟩:=p;rw[_W]at e;split at e
  ·rename_i hb;cases e;have:a=b:=by simpa using hb
   subst this;exact s (a,o) (by simp)
  ·exact ih (λq hq=>s q (by simp[hq])) e
theorem z2P(h:Heap)(a:Addr):Sub (z5F h a) h:=λp hp=>by
 unfold z5F at hp;split at hp
 ·rename_i o e;simp at hp;subst hp;exact e
 ·simp at hp
theorem Sub.app{K L:W.Frag}{h:Heap}(a:Sub K h)(b:Sub L h):Sub (K++L) h:=λp hp=>(_M.mp hp).elim (a p) (b p)
theorem zen(h:Heap)(ns:List Str):Sub (gat h ns) h:=by
 refine (z2P h _).app λp hp=>?_;obtain⟨x,_,hx⟩:=List.mem_flatMap.mp hp;unfold zkD at hx;split at hx
 ·rcases _M.mp hx with hx | hx;·exact z2P h _ p hx
  ·split at hx
   ·split at hx;·exact z2P h _ p hx
    ·simp at hx
   ·exact z2P h _ p hx
   ·simp at hx
 ·simp at hx
def zkv(K:W.Frag)(x:Str)(st:Stmt):Prop:=∃f fd,W.nsIn K mainGlobals x=some (some (.ref f))/\Fun K x x st f fd
theorem dA(s:Stmt):dArgs s=ke s:=by cases s<;>rfl
theorem dB(s:Stmt):zhk s=vN s:=by cases s<;>rfl
theorem dS(s:Stmt):zdn s=zg s:=by cases s<;>rfl
theorem zf8{K:W.Frag}{x:Str}{st:Stmt}(h:zfH K x=zjp x st):zkv K x st:=by
 unfold zfH zjp at h;rw[dA,dB,dS]at h;split at h
 ·rename_i f hf;split at h
  ·rename_i oc od fd sl hl;simp only[_u,_bB]at h;obtain⟨h1,h2,h3,h4,h5,h6,h7,h8,h9,h10,h11⟩:=h;obtain⟨a1,a2,a3,a4,a5,a6,a7,a8,a9,a10,a11,a12,a13,a14,a15⟩:=fd;simp only at h1 h2 h3 h4 h5 h6 h7 h8 h9 h10;subst h1 h3 h4 h5 h6 h7 h8 h9;subst h2;exact⟨f,_,hf,zi8 hl h10 h11⟩
  ·cases h
 ·cases h
theorem zbw{K:W.Frag}{x:Str}(h:zf6 K x=true):W.nsIn K mainGlobals x=some none:=by
 unfold zf6 at h;split at h;·rename_i e;exact e
 ·cases h
theorem zcV{K:W.Frag}{x:Str}{i:Int}(h:zg7 K x=some i):∃t,W.nsIn K mainGlobals x=some (some (.int i t)):=by
 unfold zg7 at h;split at h;·rename_i j t e;cases h;exact⟨t,e⟩
 ·cases h
theorem z2p{P:Program}{w:World}{K:W.Frag}{h:Heap}{mg:Str->Option Value}(X:K.In h)(G:h.Ns mainGlobals mg):∀{es:List DictEntry}{tb:List (Str×Str)},z1j K es (tb.map (·.2))=tb.map (λp=>(PyData.keyHash w.params p.1,some p.1,true))-> PySem.KeysOf (zy P w) es.toArray/\(∀k y,tb.lookup k=some y->∃f,(zbe es).lookup k=some (.ref f)/\mg y=some (.ref f))/\∀k,tb.lookup k=none->(zbe es).lookup k=none
 | [],[],_=>⟨λe he=>by simp at he,λk y h=>by simp at h,λk _=>by simp[zbe]⟩ | [],_::_,h=>by simp[z1j]at h | _::_,[],h=>by simp[z1j]at h | e::es,(k0,y0)::tb,h=>by
  simp only[_j,z1j,_bi,_bB]at h;obtain⟨⟨h1,h2,h3⟩,h4⟩:=h;obtain⟨i1,i2,i3⟩:=z2p (P:=P) X G h4;obtain⟨hh,kk,vv⟩:=e;simp only at h1 h2 h3;cases kk with
  | str ks t=>
   simp only[z51,_u]at h2;subst h2;have hv:∃f,vv=.ref f/\W.nsIn K mainGlobals y0=some (some (.ref f)):=by
    unfold sameRef at h3;split at h3
    ·rename_i f g e1;have:f=g:=by simpa using h3
     subst this;exact⟨f,rfl,e1⟩
    ·cases h3
   obtain⟨f,rfl,e1⟩:=hv;refine⟨λe he=>?_,λk y hy=>?_,λk hy=>?_⟩
   ·simp only[List.mem_toArray,_p]at he;rcases he with rfl | he;·exact⟨.inr ks,jA ks t,h1⟩
    ·exact i1 e (by simpa using he)
   ·simp only[zbe,_W]at hy ⊢;by_cases z:k=ks
    ·subst z;simp at hy ⊢;subst hy;exact W.mg_of X G e1
    ·rw[show (k==ks)=false from by simpa using z]at hy ⊢;exact i2 k y hy
   ·simp only[zbe,_W]at hy ⊢;by_cases z:k=ks;·subst z;simp at hy
    ·rw[show (k==ks)=false from by simpa using z]at hy ⊢;exact i3 k hy | _=>simp[z51]at h2
theorem zez{P:Program}{w:World}{K:W.Frag}{h:Heap}{mg:Str->Option Value}{x:Str}{tb:List (Str×Str)}(X:K.In h)(G:h.Ns mainGlobals mg)(e:zak K x (tb.map (·.2))=zgM w tb):zf4 P w K mg x tb:=by
 unfold zak zgM at e;split at e
 ·rename_i a ha;split at e
  ·rename_i c d es ep sl hl;simp only[_u,_bB]at e;obtain⟨e1,e2,e3,e4,e5⟩:=e;obtain⟨i1,i2,i3⟩:=z2p (P:=P) X G e5;have hc:c=.type "dict":=by
    unfold z0A at e1;split at e1
    ·rename_i n;have:n="dict":=by simpa using e1
     rw[this]
    ·cases e1
   have hd:d=none:=by simpa using e2
   have hs:sl=#[]:=by
    have:sl.size=0:=by simpa using e3
    exact _cr this
   have ea:es.toList.toArray=es:=by simp
   rw[ea]at i1;refine⟨a,_,es,ep,W.mg_of X G ha,e4,hl,⟨hc,hd,hs⟩,rfl,i1,λk y hy=>?_,λk hy=>?_⟩;·rw[<- ea,jY];exact i2 k y hy
   ·rw[<- ea,jY];exact i3 k hy
  ·cases e
 ·cases e
def saysS(q:Ask)(w:World)(h:Heap):Prop:=∃K:W.Frag,K.In h/\z9N q K=valS q w
theorem zeh(q:Ask)(w:World)(s:Shared)(e:obsS q s=valS q w):saysS q w s.heap:=⟨_,(zen _ _).in_,e⟩
theorem z88(q:Ask)(w:World)(h h':Heap)(x:saysS q w h)(k:∀b o,h.get? b=some o->h'.get? b=some o):saysS q w h':=let ⟨K,a,b⟩:=x;⟨K,a.keeps k,b⟩
theorem z50{α β:Type}{f g:α->β}:∀{l:List α},l.map f=l.map g->∀x∈l,f x=g x:=λh x hx=>List.map_inj_left.mp h x hx
theorem zkd{q:Ask}{w:World}{K:W.Frag}(e:z9N q K=valS q w)(x:Str)(st:Stmt)(hx:(x,st)∈q.fs):zkv K x st:=zf8 (z50 (_aq Prod.fst e) (x,st) hx)
theorem zju{q:Ask}{w:World}{K:W.Frag}(e:z9N q K=valS q w)(x:Str)(hx:x∈q.bs):W.nsIn K mainGlobals x=some none:=zbw (z50 (_aq (λz=>z.2.1) e) x hx)
theorem zkk{q:Ask}{w:World}{K:W.Frag}(e:z9N q K=valS q w)(x:Str)(i:Int)(hx:(x,i)∈q.cs):∃t,W.nsIn K mainGlobals x=some (some (.int i t)):=zcV (z50 (_aq (λz=>z.2.2.1) e) (x,i) hx)
theorem zj4{P:Program}{q:Ask}{w:World}{K:W.Frag}{h:Heap}{mg:Str->Option Value}(X:K.In h)(G:h.Ns mainGlobals mg)(e:z9N q K=valS q w)(x:Str)(tb:List (Str×Str))(hx:(x,tb)∈q.ts):zf4 P w K mg x tb:=zez X G (z50 (_aq (λz=>z.2.2.2.1) e) (x,tb) hx)
theorem zaJ{p q:Program}{loose:List Str}{Xt:Shared->Bool}{α:Type}{Yf:Shared->α}{Ya:World->α}{N:Nat}{g0:Bool}(row:String) (bo:∀w:World,(W.fencedOpening treeTable p w N).map (λs=>(s.heap,s.gens,s.drawn,s.toks))=some (W.boot_heap w.params,Array.mk [],W.boot_drawn,W.boot_toks)) (hf:∀(w:World)(os:OsState),(W.topFrom treeTable p (w.withFollow row false) N ⟨W.boot_heap w.params,Array.mk [],W.boot_drawn,W.boot_toks,os⟩).map (λs=>(W.openSeen q loose (importedModules p.main.body) Xt g0 s,Yf s))=some (W.openGood q loose,Ya (w.withFollow row false))) (ht:∀(w:World)(os:OsState),(W.topFrom treeTable p (w.withFollow row true) N ⟨W.boot_heap w.params,Array.mk [],W.boot_drawn,W.boot_toks,os⟩).map (λs=>(W.openSeen q loose (importedModules p.main.body) Xt g0 s,Yf s))=some (W.openGood q loose,Ya (w.withFollow row true))):W.LeftO p q loose Xt Yf Ya N g0:= W.LeftO.of_split row λw=>by
  obtain⟨⟨h,gs,d,k,os⟩,e,e'⟩:=_x.mp (bo w);obtain⟨rfl,rfl,rfl,rfl⟩:h=W.boot_heap w.params/\gs=Array.mk []/\d=W.boot_drawn/\k=W.boot_toks:=by simpa only [_bB] using e'
  rw[e,_H,hf w os,ht w os]
theorem z4k{tb:String->Option Builtin}{p:Program}{w:World}{n₀:Nat}{ann:Option Value}:∀{n:Nat}{s s':W.SharedT}{t:Thread},z0U tb p w n₀ ann n s t=some s'->W.topRun tb p w n₀ ann n s.abs t=some s'.abs
 | 0,_,_,_,h=>by cases h | n+1,s,s',t,h=>by
  unfold z0U at h;unfold W.topRun;cases he:W.through t with
  | true=>rw[he]at h;cases h;rfl | false=>
   rw[he]at h;cases hk:W.stepOk n₀ ann t with
   | false=>rw[hk]at h;cases h | true=>
    rw[hk]at h;cases hs:W.stepT (denote tb) p w s t with
    | none=>rw[hs]at h;cases h | some r=>obtain⟨s₂,t₂⟩:=r;rw[hs]at h;rw[W.stepT_spec hs];exact z4k h
theorem z1D{p:Program}{w:World}{N:Nat}{h:Heap}{d:Drawn}{k:Nat}{os:OsState}{t0:W.BT}{m₀:Nat}{ann:Option Value}(ha:W.absHeap t0 m₀ h.life=h) (sz:(h.isNs mainGlobals&&(Array.mk []:Array GenState).size==0,h.objs.size,h.nsMap mainGlobals "__annotations__")=(true,m₀,ann)){α:Type}{f:Shared->α}{v:α} (hr:(z0U treeTable p w m₀ ann N ⟨t0,m₀,h.life,Array.mk [],d,k,os⟩ (W.topStub p)).map (λsT=>(W.staticsOk (importedModules p.main.body) h sT.abs.heap&&W.namesBound p sT.abs.heap&&W.gensDone sT.abs&&W.laidKept h sT.abs.heap,f sT.abs))=some (true,v)): (W.topFrom treeTable p w N ⟨h,Array.mk [],d,k,os⟩).map f=some v:=by
 obtain⟨sT,e1,e2⟩:=_x.mp hr;obtain⟨e3,e4⟩:=Prod.mk.inj e2;obtain⟨z1,z2,z3⟩:_/\_/\_:=by simpa only [_bB] using sz
 have r:=z4k e1;have a0:(⟨t0,m₀,h.life,Array.mk [],d,k,os⟩:W.SharedT).abs=⟨h,Array.mk [],d,k,os⟩:=by
  show (⟨W.absHeap t0 m₀ h.life,Array.mk [],d,k,os⟩:Shared)=_;rw[ha]
 rw[a0]at r;have t:W.topFrom treeTable p w N ⟨h,Array.mk [],d,k,os⟩=some sT.abs:=by
  unfold W.topFrom;dsimp only;rw[z1,z2,z3];dsimp only;rw[r];show (match (W.staticsOk (importedModules p.main.body) h sT.abs.heap&&W.namesBound p sT.abs.heap&&W.gensDone sT.abs&&W.laidKept h sT.abs.heap) with | true=>some sT.abs | false=>none)=_;rw[e3]
 rw[t,_H,e4]
theorem z5e{α β γ δ:Type}{r:Option α}{f:α->β}{g:α->γ}{k:α->δ}{x:β}{y:γ}{z:δ}(h1:r.map (λs=>(f s,k s))=some (x,z))(h2:r.map g=some y):r.map (λs=>(f s,(g s,k s)))=some (x,(y,z)):=by
 obtain⟨s,e1,e2⟩:=_x.mp h1;obtain⟨s',e3,e4⟩:=_x.mp h2;rw[e1]at e3;cases e3;obtain⟨e5,e6⟩:=Prod.mk.inj e2;rw[e1,_H,e4,e5,e6]
theorem walkY{l:W.OpenLaw}{n k:Nat}{q:Program}{loose:List Str}{XP:(Str->Option Value)->Heap->Prop}{YP:World->Heap->Prop}{d:DefRec}{x:Str} (hn:l.most=some n)(hn2:n<=sizeLine)(hn3:n<=63)(hdf:d.params.defaults=[])(hr:z07 k callerA) (F:∀(w:World)(mg:Str->Option Value)(fa:Addr)(h:Heap),YP w h->h.Ns mainGlobals mg->mg d.name=some (.ref fa)->XP mg h-> ∃K:W.Frag,K.In h/\∃fd:FuncData,(∀(s:Shared)(u:Value),BindsTo s fd ⟨[u],[]⟩ [(x,u)])/\ ∀base:Heap,K.In base->base.Ns mainGlobals mg->z2R l.prog w K mg base CX0 k fa fd [x] (zfv K)): W.WalkO q loose XP YP l.row.toRowW d [] (λf vs=>PySem.call f vs):=by
 refine Att.z5Q hn hdf λw s₀ s₁ mg mb fa o pm cd doc a vs ns G Yy ho hd hcd hmg hobj hints hlen hg=>?_;obtain⟨K,KX,fd,hb,hF⟩:=F w mg fa _ Yy G.T.g hmg G.X;exact zch KX G.T.g G.T.b G.T.builtins G.T.nolimit hg hobj hints (_ad hlen hn2) hr hF hb (λH hO hS=>⟨a,ns,rfl,hO,hS,_ad hlen hn3,λ_=>rfl⟩) λH e s' z=>z
end Dd
namespace Dd
open L2
section
variable {X:Cx}{E:XK}{e:Expr}{pos p2 p3 p4:Pos}
theorem zm.rev{mg:Gm}{H:Hp}{Y:List Addr}:∀{xs:List D}{vs:List V},zm mg H Y xs vs->zm mg H Y xs.reverse vs.reverse
 | [],vs,h=>by simp only[zm]at h;subst h;exact zm.nil | d::ds,vs,h=>by
  simp only[zm]at h;obtain⟨v,r,rfl,h1,h2⟩:=h;rw[_aB,_aB];exact (zm.rev h2).append (.one h1)
end
section
variable {X:Cx}{E:XK}{e o a b c:Expr}{es:List Expr}{pos:Pos}
def zkT:D->D->Sto->R D
 | x,.int k,s=>match listOf s x with
  | some xs=>if xs.length*k.toNat<=cap/\-(2 ^ 62)<=k/\k<2 ^ 62/\D.flat.flats (List.replicate k.toNat xs).flatten=true then .ok (.loc s.length) (s++[(List.replicate k.toNat xs).flatten]) else .no | none=>.no
 | _,_,_=>.no
def zkL(fo fv:FE):FE:=fun ρ s=>(fo ρ s).bind λo s1=>match o with
 | .loc l=>(fv ρ s1).bind λd s2=>match s2[l]?,d with
  | some xs,.int i=>if 0<=i/\i<2 ^ 62 then (match xs[i.toNat]? with | some y=>.ok y (s2.set l (xs.eraseIdx i.toNat)) | none=>.no) else .no | _,_=>.no
 | _=>.no
def see(s:Sto):D->D
 | .loc l=>match s[l]? with | some xs=>.lst xs | none=>.loc l
 | d=>d
def zeP(neg:Bool)(x y:D)(s:Sto):R D:=if z8b (see s x)=true/\z8b (see s y)=true then .ok (.bl (if neg then !eqD (see s x) (see s y) else eqD (see s x) (see s y))) s else .no
theorem Den.readsS{P:Program}{w:World}{mg:Gm}{H:Hp}{Y:List Addr}{h:Heap}{s:Sto}(ok:HOk P w H h)(rp:Rep mg H Y s){d:D}{v:V}{u:Value}(c:PyData.canLay0 (xl (see s d))=true)(dn:Den mg H Y d v)(r:yg v u):∃as,Reads h u (xl (see s d)) as:=by
 by_cases hl:∃l xs,d=.loc l/\s[l]? = some xs
 ·obtain⟨l,xs,rfl,hx⟩:=hl;have e0:see s (.loc l)=.lst xs:=by simp[see,hx]
  rw[e0]at c ⊢;simp only[Den]at dn;obtain⟨a,rfl,e1,ka⟩:=dn;cases r;obtain⟨vs,q1,q2⟩:=rp.at_ hx e1 ka;obtain⟨_,its,n,rv,e⟩:=ok a _ q1;obtain⟨as,q⟩:=zm.reads ok (by simpa[xl,PyData.canLay0] using c) q2 rv;rw[xl];exact⟨_,Reads.list e rfl rfl (by simpa using q)⟩
 ·have e0:see s d=d:=by cases d with
   | loc l=>
    simp only[see];split;·rename_i xs hx;exact absurd ⟨l,xs,rfl,hx⟩ hl
    ·rfl | _=>rfl
  rw[e0]at c ⊢;exact Den.reads ok c dn r
def zkQ(mg:Gm)(neg:Bool):R2:=λx y H Q=>∃Y s d1 d2,Rep mg H Y s/\Den mg H Y d1 x/\Den mg H Y d2 y/\z8b (see s d1)=true/\z8b (see s d2)=true/\Q (.bl (if neg then !eqD (see s d1) (see s d2) else eqD (see s d1) (see s d2))) H
theorem zhX(hu:X.A.units+64<cLine):OpR X (compareOp .NotEq) (zkQ (gm X) true):=by
 intro pins s O H x y v u Q I rx ry ⟨Y,st,d1,d2,rp,h1,h2,p1,p2,q⟩;obtain⟨as,ra⟩:=Den.readsS I.hok rp (_aO p1) h1 rx;obtain⟨bs,rb⟩:=Den.readsS I.hok rp (_aO p2) h2 ry;exact SeqAt.compareNe_shaped ra rb p1 p2 hu ⟨.bl (!eqD (see st d1) (see st d2)),H,I,rfl,q⟩
theorem zf9{neg:Bool}:OpF X E (zkQ (gm X) neg) (zeP neg):=λH Y s d1 d2 v1 v2 Q r h1 h2 h=>by
 unfold zeP at h;split at h
 ·rename_i hc;exact⟨Y,s,d1,d2,r,h1,h2,hc.1,hc.2,h.here r wz⟩
 ·exact h.elim
theorem zhQ(hu:X.A.units+64<cLine):∃r,OpR X (compareOp .NotEq) r/\OpF X E r (zeP true):=⟨_,zhX hu,zf9⟩
end
end Dd
namespace Dd
open L2
open PySem.W
def kev{α:Type}(n:Nat)(lt:Nat->Nat->Bool):KasT α->Option α
 | .ret a=>some a | .ask i j k=>if i<n/\j<n then kev n lt (k (lt i j)) else none
theorem z7k{α:Type}{n:Nat}{lt:Nat->Nat->Bool}{cmp:Nat->Nat->(Bool->Shared->Prop)->Shared->Prop}{Q:α->Shared->Prop}{s:Shared}(hc:∀i j C,i<n->j<n->C (lt i j) s->cmp i j C s): ∀(t:KasT α)(a:α),kev n lt t=some a->Q a s->t.kasWp cmp Q s
 | .ret a,b,e,h=>by
  simp only[kev,_u]at e;subst e;exact h | .ask i j k,b,e,h=>by
  unfold kev at e;split at e
  ·rename_i hij;exact hc i j _ hij.1 hij.2 (z7k hc (k (lt i j)) b e h)
  ·cases e
section
variable {prog:Program}{w:World}{A:Around}{E:Value->Shared->Prop}{s:Shared}
def kU(vs:List Value)(p:Array Nat):Array Value:=List.toArray (p.toList.map λi=>vs.getD i Value.none)
end
section
variable {X:Cx}{E:XK}
theorem z4g:∀{ys:List V}{its:List Value},yd ys its->∀i,i<ys.length->yg (ys.getD i .non) (its.getD i .none)
 | [],_,.nil,i,hi=>by simp at hi | y::ys,_,.cons r rs,0,_=>by simpa using r | y::ys,_,.cons r rs,i+1,hi=>by simpa using z4g rs i (by simpa using hi)
theorem z2h{ys:List V}{its:List Value}(h:yd ys its):∀(p:List Nat),(∀i∈p,i<ys.length)->yd (p.map λi=>ys.getD i .non) (p.map λi=>its.getD i .none)
 | [],_=>.nil | i::p,hp=>.cons (z4g h i (hp i (.head _))) (z2h h p λj hj=>hp j (.tail _ hj))
theorem z5f{mg:Gm}{H:Hp}{Y:List Addr}:∀{xs:List D}{vs:List V},zm mg H Y xs vs->∀i,i<xs.length->Den mg H Y (xs.getD i .non) (vs.getD i .non)
 | [],_,_,i,hi=>by simp at hi | x::xs,vs,h,i,hi=>by
  simp only[zm]at h;obtain⟨v,ws,rfl,h1,h2⟩:=h;cases i with
  | zero=>simpa using h1 | succ i=>simpa using z5f h2 i (by simpa using hi)
theorem z7c{mg:Gm}{H:Hp}{Y:List Addr}{xs:List D}{vs:List V}(h:zm mg H Y xs vs):∀(p:List Nat),(∀i∈p,i<xs.length)->zm mg H Y (p.map λi=>xs.getD i .non) (p.map λi=>vs.getD i .non)
 | [],_=>by simp[zm] | i::p,hp=>by
  simp only[_j,zm];exact⟨_,_,rfl,z5f h i (hp i (.head _)),z7c h p λj hj=>hp j (.tail _ hj)⟩
end
end Dd
namespace Dd
open L2
section
variable {X:Cx}{E:XK}{es:List Expr}{fa:FE}{fr:FA}
theorem aN{x:Str}{p:Pos}(ha:RE X E (.Name x p) fa)(hr:RA X E es fr):RA X E ((.Name x p)::es) (za fa fr):=ji ha hr (zB ..)
theorem aK{c:Const}{j:Nat}{p:Pos}(ha:RE X E (.Constant c j p) fa)(hr:RA X E es fr):RA X E ((.Constant c j p)::es) (za fa fr):=ji ha hr (z23 ..)
theorem aQ{g:Expr}{xs:List Expr}{ks:List Keyword}{p:Pos}(ha:RE X E (.Call g xs ks p) fa)(hr:RA X E es fr):RA X E ((.Call g xs ks p)::es) (za fa fr):=ji ha hr (wn ..)
theorem aT{xs:List Expr}{k:Nat}{p:Pos}(ha:RE X E (.Tuple xs k p) fa)(hr:RA X E es fr):RA X E ((.Tuple xs k p)::es) (za fa fr):=ji ha hr (zc2 ..)
theorem aS{a b:Expr}{p:Pos}(ha:RE X E (.Subscript a b p) fa)(hr:RA X E es fr):RA X E ((.Subscript a b p)::es) (za fa fr):=ji ha hr (z2X ..)
theorem aB{a b:Expr}{o:Operator}{p:Pos}(ha:RE X E (.BinOp a o b p) fa)(hr:RA X E es fr):RA X E ((.BinOp a o b p)::es) (za fa fr):=ji ha hr (zbV ..)
theorem aL{xs:List Expr}{p:Pos}(ha:RE X E (.List xs p) fa)(hr:RA X E es fr):RA X E ((.List xs p)::es) (za fa fr):=ji ha hr (zcu ..)
theorem aO{a:Expr}{g:List Comprehension}{sc:Scope}{p:Pos}(ha:RE X E (.ListComp a g sc p) fa)(hr:RA X E es fr):RA X E ((.ListComp a g sc p)::es) (za fa fr):=ji ha hr (yn ..)
theorem aM{a:Expr}{o:List CmpOp}{b:List Expr}{p:Pos}(ha:RE X E (.Compare a o b p) fa)(hr:RA X E es fr):RA X E ((.Compare a o b p)::es) (za fa fr):=ji ha hr (z6D ..)
theorem yA {e:Expr} {pos:Pos} {CX:CXT} {x:Str} {p:Pos} {n k:Nat} {M:Mir} {f:FA} (F:Has X.prog X.w X.K X.mg X.base CX x n M) (hr:z07 k X.A) (hx:Passes CX X E) (ha:RA X E (e::es) f) (hk:n<=k:=by decide) (hg:Gl X x:=by rfl) (hdb:(x==("__debug__":Str))=false:=by decide) (he:starEach (e::es) X.env=(false,eval e X.env)::starEach es X.env:=by rfl) (hpl:(backTo pos (starEach es X.env)).any (·.1)=false:=by rfl):RE X E (.Call (.Name x p) (e::es) [] pos) (zd M f):=zix F (hr.mono hk) hx hg ha hdb he hpl
end
section
variable {q:Ask}{w:World}{K:W.Frag}{h:Heap}{mg:Str->Option Value}
theorem zL(X:K.In h)(G:h.Ns mainGlobals mg)(e:z9N q K=valS q w)(i:Nat){x:Str}{st:Stmt}(hx:q.fs[i]? = some (x,st)):∃f fd,mg x=some (.ref f)/\Fun K x x st f fd:=let ⟨f,fd,a,F⟩:=zkd e x st (_y hx);⟨f,fd,W.mg_of X G a,F⟩
theorem wJ(X:K.In h)(G:h.Ns mainGlobals mg)(e:z9N q K=valS q w)(i:Nat){x:Str}(hx:q.bs[i]? = some x):mg x=none:=W.mg_none_of X G (zju e x (_y hx))
theorem z9k(X:K.In h)(G:h.Ns mainGlobals mg)(e:z9N q K=valS q w)(i:Nat){x:Str}{c:Int}(hx:q.cs[i]? = some (x,c)):∃t,mg x=some (.int c t):=let ⟨t,z⟩:=zkk e x c (_y hx);⟨t,W.mg_of X G z⟩
end
open PySem.W
section
variable {prog:Program}{w:World}{A:Around}{E:Value->Shared->Prop}{s:Shared}
theorem z5z {l:Addr} {vs:List Value} {o:Obj} {n:Nat} {Q:List Value->Shared->Prop} (ho:s.heap.get? l=some o) (hc:o.cls=.type "tuple") (hd:o.data=.seq vs.toArray n) (h:Q vs {s with heap:=(s.heap.push (seqObj "list" #[] 0)).update s.heap.objs.size (Obj.mapSeq (· ++ vs.toArray))}) (hsz:vs.length<=sizeLine):wpAny (model prog w) A (collect (.ref l)) Q E s:=by
 refine _a (wpAny_runValue (_a2 entry_proto_collect' ?_));refine _a (_bC (_b ⟨Code.quiet_builtin _ (by decide +kernel),_a2 entry_list_iadd' ?_⟩) (_Y _));have ho':=_c (seqObj "list" #[] 0) ho;refine _a (m:=slotArgs "__iadd__" 1 {pos:=[Value.ref s.heap.objs.size,Value.ref l]}) (_b ?_);show wpAny _ _ (Builtin.List.listExtendWith (.ref s.heap.objs.size) (.ref l) (.ref s.heap.objs.size)) _ _ _;unfold Builtin.List.listExtendWith;refine _a (_b7 (v:=.ref l) (T:="tuple") (Exists.intro o ⟨ho',hc⟩) ?_);have ht:(Value.type "tuple"==Value.type "tuple")=true:=rfl;rw[_f (by rw[ht];simp)];refine _a (_dP ho' hd (_a (_dP (_g s.1 rfl) rfl ?_)));rw[_i (by simp)];refine _a (_bO (_g s.1 rfl) rfl (_b ?_) (by simp) (by simp;omega));show wpAny _ _ (load s.heap.objs.size >>= _) _ _ _;refine _a (wpAny_load (get?_update_seq (_g s.1 rfl) λx=>x++vs.toArray) ?_);refine _b ?_;simpa using h
end
end Dd
namespace Dd
open L2
section
variable {X:Cx}{E:XK}{e:Expr}{pos pos':Pos}
def zdw:FS:=fun ρ s=>.ok (.bk ρ) s
theorem zff:RS X E (.Break pos) zdw:=wq zbT λD O H ⟨Y,ρ,s,r,en,h⟩=>okR.here (b:=FlV.bk O) h r en
def zge(i:Nat)(f:FE):FS:=fun ρ s=>match ρ[i]? with
 | some (some (.int a))=>(f ρ s).bind λd s1=>match d with | .int b=>.ok (.nx (ρ.set i (some (.int (a+b))))) s1 | _=>.no
 | _=>.no
theorem zi1(i:Nat){x:Str}{f:FE}(hN:X.N.Nodup)(he:RE X E e f)(hi:X.N[i]? = some x:=by rfl)(hx:Loc X.env.scope x:=by first | exact Or.inl rfl | exact Or.inr rfl)(hf:X.fn x=true\/X.env.scope.names.lookup x=some .local:=by first | exact .inl rfl | exact .inr rfl | assumption): RS X E (.AugAssign (.Name x pos') .Add e pos) (zge i f):= wq (ziF hN hi hx he ziq hf) λD O H ⟨Y,ρ,s,r,en,h⟩=>by
  unfold zge at h;split at h
  ·rename_i a ea;obtain⟨v,h1,h2⟩:=en.at_ i _ ea;cases zN h2;refine⟨_,h1,?_⟩;refine zM (k:=fun ρ d s1=>match d with | .int b=>R.ok (Fl.nx (ρ.set i (some (.int (a+b))))) s1 | _=>.no) r en h _ λv H1 Y1 s1 d r1 en1 dn stp h3=>?_;cases d with
   | int b=>
    cases zN dn;refine⟨_,_,rfl,rfl,?_⟩;exact okR.here (b:=FlV.nx (O.set i (some (.int (a+b))))) h3 r1 (en1.set (by simp[Den]) i) | _=>exact h3.elim
  ·exact h.elim
@[simp] theorem zhl {i:Nat}{f:FE}{ρ:Ev}{s:Sto}{a b:Int}{s1:Sto}(h:ρ[i]? = some (some (.int a)))(hf:f ρ s=.ok (.int b) s1):zge i f ρ s=.ok (.nx (ρ.set i (some (.int (a+b))))) s1:=by simp only[zge,h,hf,Rb]
end
open PySem.W
theorem z1G:∀{xs ys:List Int},xs.Perm ys->xs.Pairwise (· <= ·)->ys.Pairwise (· <= ·)->xs=ys
 | [],ys,p,_,_=>by rw[List.Perm.nil_eq p] | x::xs,[],p,_,_=>by simp at p | x::xs,y::ys,p,h1,h2=>by
  have hx:x∈y::ys:=p.mem_iff.mp (by simp);have hy:y∈x::xs:=p.mem_iff.mpr (by simp);rw[_bb]at h1 h2;have e:x=y:=by
   rcases _p.mp hx with e | hx;·exact e
   ·rcases _p.mp hy with e | hy;·exact e.symm
    ·have:=h1.1 y hy;have:=h2.1 x hx;omega
  subst e;rw[z1G ((List.perm_cons x).mp p) h1.2 h2.2]
def yP(ns:List Int):List Int:=ns.mergeSort λa b=>decide (a<=b)
theorem z6I(ns:List Int):(yP ns).Pairwise (· <= ·):=by
 have:=_b2 (le:=λa b:Int=>decide (a<=b)) (by intro a b c;simp;omega) (by intro a b;simp;omega) ns;refine this.imp λh=>by simpa using h
theorem kh(ns:List Int):(yP ns).Perm ns:=List.mergeSort_perm ns _
theorem z7t{ns ns':List Int}(p:ns'.Perm ns)(h:ns'.Pairwise (· <= ·)):ns'=yP ns:=z1G (p.trans (kh ns).symm) h (z6I ns)
section
variable {prog:Program}{w:World}{A:Around}{E:Value->Shared->Prop}{s:Shared}
theorem z7G {l:Addr} {vs:List Value} {ns:List Int} {o:Obj} {n:Nat} {Q:Value->Shared->Prop} (ho:s.heap.get? l=some o) (hc:o.cls=.type "tuple") (hd:o.data=.seq vs.toArray n) (hi:IntsAre vs ns) (h64:vs.length<64) (h:∀(out:Array Value),IntsAre out.toList (yP ns)->Q (.ref (s.heap.objs.size+1)) {s with heap:=sortedAll s.heap vs out}): wpAny (model prog w) A (call (.builtin "sorted") [.ref l]) Q E s:=by
 have hline:vs.length<=sizeLine:=by rw[_aM];omega
 refine _be kind_sorted _dQ _dR (_dS _) ?_;unfold Builtin.«sorted»;refine _a (m:=checkCount "sorted" 1 1 _) (_b (_a (z5z ho hc hd (_a (_bC ?_ (by rw[_aM];omega))) (by rw[_aM];omega))));have sz:((s.heap.push (seqObj "list" #[] 0)).update s.heap.objs.size (Obj.mapSeq (· ++ vs.toArray))).objs.size=s.heap.objs.size+1:=by rw[_dB,_dT]
 have g:(((s.heap.push (seqObj "list" #[] 0)).update s.heap.objs.size (Obj.mapSeq (· ++ vs.toArray))).push (seqObj "list" vs.toArray 0)).get? (s.heap.objs.size+1)=some (seqObj "list" vs.toArray 0):=by
  rw[<- sz];exact _g _ rfl
 show wpAny (model prog w) _ _ _ _ {s with heap:=((s.heap.push (seqObj "list" #[] 0)).update s.heap.objs.size (Obj.mapSeq (· ++ vs.toArray))).push (seqObj "list" vs.toArray 0)};rw[sz];exact _a (_X (_I _cZ ⟨_,g,rfl⟩ _cN (list_sort_tree g hi h64 λout ns' i' p pw=>by
  rw[z7t p pw]at i';exact⟨_,rfl,_b ⟨_,rfl,h out i'⟩⟩) (_c0 _)))
end
section
variable {X:Cx}{E:XK}
theorem z6Y:∀{ns:List Int}{vs:List Value},yd (ns.map V.int) vs->IntsAre vs ns
 | [],_,.nil=>.nil | n::ns,_,.cons ⟨t,e⟩ r=>by subst e;exact .cons _ _ (z6Y r)
theorem z7l:∀{ns:List Int}{vs:List Value},IntsAre vs ns->yd (ns.map V.int) vs
 | _,_,.nil=>.nil | _,_,.cons _ _ r=>.cons ⟨_,rfl⟩ (z7l r)
def zgv(K:W.Frag):List V->Hp->VK->Prop:=λxs H Q=>∃(l:Addr)(ns:List Int),xs=[.ref l]/\SqT K H l (ns.map V.int)/\ns.length<64/\∀r,H r=none->Q (.ref r) (upd H r (.lst ((yP ns).map V.int)))
theorem z8d:yN X (.builtin "sorted") (zgv X.K):=by
 intro pins s O H xs us Q I r h;obtain⟨l,ns,rfl,hq,h64,q⟩:=h;obtain⟨u,rfl,rx⟩:=vals1 r;cases rx;obtain⟨its,r',pl,hz⟩:=I.tuple hq;obtain⟨o,ho,hc,n,hd⟩:=pl;have hlen:=r'.length;rw[_w]at hlen;refine z7G (ns:=ns) ho hc hd (z6Y r') (by omega) λout io=>?_;obtain⟨c',e⟩:=_dU s.heap its out;have rl:=z7l io;refine⟨.ref (s.heap.objs.size+1),_,I.laid (t':=s.toks) (λb o z=>_dq z) (_br _) (show yq X.prog X.w _ (sortedAll s.heap its out) _ (.lst ((yP ns).map V.int)) from⟨?_,_,c',rl,by simpa using e⟩),rfl,q _ (I.hok.fresh (_br _))⟩;rw[_w,(kh ns).length_eq,_aM];omega
def z4b:List D->Option (List Int)
 | []=>some [] | .int a::r=>(z4b r).map (a::·) | _=>none
theorem z7u:∀{xs:List D}{ns:List Int},z4b xs=some ns->xs=ns.map D.int
 | [],_,e=>by simp[z4b]at e;subst e;rfl | x::xs,ns,e=>by
  unfold z4b at e;split at e;·rename_i h;cases h
  ·rename_i a r h;cases h;cases q:z4b xs with
   | none=>rw[q]at e;simp at e | some t=>
    rw[q]at e;simp only[_H,_u]at e;subst e;rw[z7u q];rfl
  ·cases e
theorem z6P:∀{mg:Gm}{H:Hp}{Y:List Addr}{ns:List Int}{vs:List V},zm mg H Y (ns.map D.int) vs->vs=ns.map V.int
 | _,_,_,[],_,h=>by simpa[zm] using h | mg,H,Y,n::ns,vs,h=>by
  simp only[_j,zm]at h;obtain⟨v,r,rfl,h1,h2⟩:=h;rw[zN h1,z6P h2];rfl
theorem z6C(mg:Gm)(H:Hp)(Y:List Addr):∀ns:List Int,zm mg H Y (ns.map D.int) (ns.map V.int)
 | []=>by simp[zm] | n::ns=>by simp only[_j];exact zm.cons (by simp[Den]) (z6C mg H Y ns)
def vS:List D->Sto->R D
 | [.tup xs],s=>match z4b xs with
  | some ns=>if ns.length<64 then .ok (.lst ((yP ns).map D.int)) s else .no | none=>.no
 | _,_=>.no
theorem z2i:∃r,yN X (.builtin "sorted") r/\jJ X E r vS:=⟨_,z8d.freeze,λH Y s ds vs Q r hd h=>by
 unfold vS at h;split at h
 ·split at h
  ·rename_i xs ns e;split at h
   ·rename_i h64;obtain⟨v,rfl,dn⟩:=jV hd;rw[z7u e]at dn;obtain⟨c,us,rfl,q1,q2⟩:=vT (K:=X.K) dn;rw[z6P q2]at q1;exact⟨c,ns,rfl,q1,h64,vc r h (z6C _ _ _ _)⟩
   ·exact h.elim
  ·exact h.elim
 ·exact h.elim⟩
end
def xi(p q:Int×Str):Bool:=if p.1=q.1 then (if p.2=q.2 then false else decide (p.2.cps.toList<q.2.cps.toList)) else decide (p.1<q.1)
def z2k(h:Heap)(v:Value)(p:Int×Str):Prop:=∃a o n t u,v=.ref a/\h.get? a=some o/\o.cls=.type "tuple"/\o.data=.seq #[.int p.1 t,.str p.2 u] n
inductive yf (h:Heap):List Value->List (Int×Str)->Prop | nil:yf h [] [] | cons {v p vs ps}:z2k h v p->yf h vs ps->yf h (v::vs) (p::ps)
theorem yf.length{h:Heap}:∀{vs ps},yf h vs ps->vs.length=ps.length
 | _,_,.nil=>rfl | _,_,.cons _ r=>by simp[r.length]
theorem yf.at_{h:Heap}:∀{vs ps},yf h vs ps->∀i,i<ps.length->z2k h (vs.getD i .none) (ps.getD i (0,""))
 | _,_,.nil,i,hi=>by simp at hi | _,_,.cons p r,0,_=>by simpa using p | _,_,.cons p r,i+1,hi=>by simpa using r.at_ i (by simpa using hi)
theorem yf.mono{h h':Heap}(k:∀b o,h.get? b=some o->h'.get? b=some o):∀{vs ps},yf h vs ps->yf h' vs ps
 | _,_,.nil=>.nil | _,_,.cons ⟨a,o,n,t,u,e,g,c,d⟩ r=>.cons ⟨a,o,n,t,u,e,k _ _ g,c,d⟩ (r.mono k)
theorem yf.tups{h:Heap}:∀{vs ps},yf h vs ps->∃fs,KatTups h vs fs/\fs.length=ps.length/\∀v∈fs,∃i t,v=.int i t
 | _,_,.nil=>⟨[],KatTups.nil,rfl,λv hv=>by cases hv⟩ | _,_,.cons (p:=p) ⟨a,o,n,t,u,e,g,c,d⟩ r=>by
  obtain⟨fs,k,l,m⟩:=r.tups;subst e;refine⟨.int p.1 t::fs,KatTups.cons g c d rfl k,by simp[l],λv hv=>?_⟩;rcases _p.mp hv with rfl | hv;·exact⟨_,_,rfl⟩
  ·exact m v hv
section
variable {prog:Program}{w:World}{A:Around}{E:Value->Shared->Prop}{s:Shared}
theorem zbZ{v u:Value}{p q:Int×Str}{C:Bool->Shared->Prop}(hv:z2k s.heap v p)(hu:z2k s.heap u q)(h:C (xi p q) s):wpAny (model prog w) A (keyLt' (tuples' true) v u) C E s:=by
 obtain⟨a,o,n,t,t',rfl,g,c,d⟩:=hv;obtain⟨b,o',n',x,x',rfl,g',c',d'⟩:=hu;refine kat_lt g d g' d' (kat_cons (_du (kat_go (λe=>kat_yes (kat_cons (wpAny_eqBool_str (kat_go (λe2=>kat_yes (kat_nil ?_)) λe2=>kat_no ?_)))) λe=>kat_no ?_)))
 ·have e1:p.1=q.1:=by simpa using e
  have e3:p.2=q.2:=by simpa using e2
  simpa[xi,e1,e3] using h
 ·have e1:p.1=q.1:=by simpa using e
  have e3:¬ p.2=q.2:=by simpa using e2
  refine kat_one _ _ (PyProof.Rows.lt_str ?_);show C _ s;simpa[xi,e1,e3] using h
 ·have e1:¬ p.1=q.1:=by simpa using e
  have hb:(true&&((0:Nat)==0))=true:=rfl;rw[hb];refine oneLt_int ?_;simpa[xi,e1] using h
theorem z5R{vs:List Value}{ps:List (Int×Str)}{Q:SortKind->Shared->Prop}(hp:yf s.heap vs ps)(h0:0<ps.length)(h:Q (tuples' true) s):wpAny (model prog w) A (keyKind' vs.toArray) Q E s:=by
 obtain⟨fs,k,l,m⟩:=hp.tups;refine kat_kind (T:=.type "int") k (by rw[l];exact h0) (λv hv=>?_) rfl h;obtain⟨i,t,rfl⟩:=m v hv;exact Looks.of_pure rfl
theorem z2l {a:Addr} {vs:List Value} {ps:List (Int×Str)} {n:Nat} {p:Array Nat} {P:PySem.Fin->Shared->Prop} (ho:s.heap.get? a=some (seqObj "list" vs.toArray n)) (hp:∀h',(∀b o,b≠a->s.heap.get? b=some o->h'.get? b=some o)->yf h' vs ps) (h2:2<=vs.length) (h64:vs.length<64) (he:kev ps.length (λi j=>xi (ps.getD i (0,"")) (ps.getD j (0,""))) (kas_sort ps.length)=some p) (h:P (.done (.ret .none)) {s with heap:=sortedHeap s.heap a vs (kU vs p)}):wpAny (model prog w) A (Builtin.«list.sort» ⟨[.ref a],[]⟩) P E s:=by
 have ha:a<s.heap.objs.size:=_l ho;have hline:vs.length<=sizeLine:=by rw[_aM];omega
 have lenP:vs.length=ps.length:=(hp s.heap λ_ _ _ e=>e).length;obtain⟨e1,g1⟩:∃e1,(s.heap.update a (Obj.mapSeq λ_=>(#[]:Array Value))).get? a=some (seqObj "list" #[] e1):=⟨_,get?_update_seq ho λ_=>#[]⟩;have g2:(((s.heap.update a (Obj.mapSeq λ_=>(#[]:Array Value))).push (seqObj "tuple" vs.toArray 0)).push (seqObj "list" #[] 0)).get? a=some (seqObj "list" #[] e1):=_c _ (_c _ g1);have hp1:yf (((s.heap.update a (Obj.mapSeq λ_=>(#[]:Array Value))).push (seqObj "tuple" vs.toArray 0)).push (seqObj "list" #[] 0)) vs ps:=hp _ λb o hb e=> _c _ (_c _ (((_ah s.heap a (Obj.mapSeq λ_=>(#[]:Array Value))).2 b hb).trans e));rw[list_sort_plain];refine _a (_dP ho rfl (_a (_bO ho rfl (_a (_dj g1 rfl (_a (wpAny_newTuple (_a (_bC (_X ?_) (_Y _))) hline)))) (by rw[_q];exact hline) (_Y _))));have big:¬ vs.toArray.size<2:=by rw[_q];omega
 dsimp only;rw[_i big,_i big];refine _a (z5R (s:={s with heap:=((s.heap.update a (Obj.mapSeq λ_=>(#[]:Array Value))).push (seqObj "tuple" vs.toArray 0)).push (seqObj "list" #[] 0)}) hp1 (by omega) ?_);refine _a (_D (kat_run (ks:=vs) (vs:=vs) (G:=λq s'=>q=p/\s'={s with heap:=((s.heap.update a (Obj.mapSeq λ_=>(#[]:Array Value))).push (seqObj "tuple" vs.toArray 0)).push (seqObj "list" #[] 0)}) (Q:=λst' s'=>∃q:Array Nat,q.size=vs.length/\arrOf st'=q.map (kas_item (vs.toArray.zip vs.toArray))/\failedOf st'=none/\q=p/\s'={s with heap:=((s.heap.update a (Obj.mapSeq λ_=>(#[]:Array Value))).push (seqObj "tuple" vs.toArray 0)).push (seqObj "list" #[] 0)}) rfl h2 h64 (λq st' s' a1 a2 a3 a4=>⟨q,a1,a2,a3,a4⟩) (z7k (n:=ps.length) (λi j C hi hj hC=>?_) _ p (by rw[lenP];exact he) ⟨rfl,rfl⟩)) ?_ λ_ _ z=>z);·exact zbZ (hp1.at_ i hi) (hp1.at_ j hj) hC
 rintro⟨⟨⟩,st'⟩ s' ⟨q,hq,har,hf,rfl,rfl⟩;dsimp only;have out:=kat_snds (ks:=vs) (vs:=vs) rfl har;rw[out,hf];refine _a (_dj g2 rfl (_a (_bO g2 rfl ?_ (_Y _) (by rw[_q,_w,_ae,hq];exact _dk hline))));simp only[_bj,_s,_P];exact _b h
theorem z7T {l:Addr} {vs:List Value} {ps:List (Int×Str)} {p:Array Nat} {Q:Value->Shared->Prop} (hl:s.heap.IsList l vs.toArray) (hp:yf s.heap vs ps) (h2:2<=vs.length) (h64:vs.length<64) (he:kev ps.length (λi j=>xi (ps.getD i (0,"")) (ps.getD j (0,""))) (kas_sort ps.length)=some p) (h:Q (.ref (s.heap.objs.size+1)) {s with heap:=sortedAll s.heap vs (kU vs p)}): wpAny (model prog w) A (call (.builtin "sorted") [.ref l]) Q E s:=by
 have hline:vs.length<=sizeLine:=by rw[_aM];omega
 refine _be kind_sorted _dQ _dR (_dS _) ?_;unfold Builtin.«sorted»;refine _a (m:=checkCount "sorted" 1 1 _) (_b (_a (collect_list hl (_a (_bC ?_ (by rw[_aM];omega))) (by rw[_aM];omega))));have sz:((s.heap.push (seqObj "list" #[] 0)).update s.heap.objs.size (Obj.mapSeq (· ++ vs.toArray))).objs.size=s.heap.objs.size+1:=by rw[_dB,_dT]
 have g:(((s.heap.push (seqObj "list" #[] 0)).update s.heap.objs.size (Obj.mapSeq (· ++ vs.toArray))).push (seqObj "list" vs.toArray 0)).get? (s.heap.objs.size+1)=some (seqObj "list" vs.toArray 0):=by
  rw[<- sz];exact _g _ rfl
 have keep:∀b o,s.heap.get? b=some o->(((s.heap.push (seqObj "list" #[] 0)).update s.heap.objs.size (Obj.mapSeq (· ++ vs.toArray))).push (seqObj "list" vs.toArray 0)).get? b=some o/\b≠s.heap.objs.size+1:=λb o q=>by
  have lt:b<s.heap.objs.size:=_l q;refine⟨?_,_t (_aa lt)⟩;rw[_bk _ _ _ (by rw[sz];exact _t (_aa lt)),Heap.get?_update_ne _ _ _ _ (_t lt),_bk _ _ _ (_t lt)];exact q
 show wpAny (model prog w) _ _ _ _ {s with heap:=((s.heap.push (seqObj "list" #[] 0)).update s.heap.objs.size (Obj.mapSeq (· ++ vs.toArray))).push (seqObj "list" vs.toArray 0)};rw[sz];exact _a (_X (_I _cZ ⟨_,g,rfl⟩ _cN (z2l g (λh' k=>hp.mono λb o q=>k b o (keep b o q).2 (keep b o q).1) h2 h64 he ⟨_,rfl,_b ⟨_,rfl,h⟩⟩) (_c0 _)))
end
section
variable {X:Cx}{E:XK}
def vY:List D->Option (List (Int×Str))
 | []=>some [] | .tup [.int a,.str b]::r=>(vY r).map λt=>(a,b)::t | _=>none
def zbK(K:W.Frag):List V->Hp->VK->Prop:=λxs H Q=>∃(l:Addr)(ys:List V)(ps:List (Int×Str))(p:Array Nat),xs=[.ref l]/\SqL K H l ys/\ys.length=ps.length/\2<=ys.length/\ys.length<64/\ (∀i,i<ps.length->∃a,ys[i]? = some (.ref a)/\SqT K H a [.int (ps.getD i (0,"")).1,.str (ps.getD i (0,"")).2])/\ kev ps.length (λi j=>xi (ps.getD i (0,"")) (ps.getD j (0,""))) (kas_sort ps.length)=some p/\(∀i∈p.toList,i<ys.length)/\p.toList.length=ys.length/\∀r,H r=none->Q (.ref r) (upd H r (.lst (p.toList.map λi=>ys.getD i .non)))
theorem z5d{pins:List (Addr×Obj)}{O:L2.St}{H:Hp}{s:Shared}(I:Inv X pins O H s):∀{ys:List V}{its:List Value}{ps:List (Int×Str)},yd ys its->ys.length=ps.length-> (∀i,i<ps.length->∃a,ys[i]? = some (.ref a)/\SqT X.K H a [.int (ps.getD i (0,"")).1,.str (ps.getD i (0,"")).2])->yf s.heap its ps
 | [],_,[],.nil,_,_=>.nil | [],_,_::_,_,l,_=>by simp at l | _::_,_,[],_,l,_=>by simp at l | y::ys,_,q::ps,.cons r rs,l,h=>by
  refine .cons ?_ (z5d I rs (by simpa using l) λi hi=>by simpa using h (i+1) (by simpa using hi));obtain⟨a,e,t⟩:=h 0 (by simp);simp only[_m,_u]at e;subst e;cases r;obtain⟨its',r',pl,_⟩:=I.tuple t;obtain⟨o,ho,hc,n,hd⟩:=pl;simp only[List.getD_cons_zero]at r';obtain⟨u,us,rfl⟩:∃u us,its'=u::us:=by cases r';exact⟨_,_,rfl⟩
  cases r' with | cons r1 r2=>
   obtain⟨t1,rfl⟩:=r1;obtain⟨t2,rfl,t3,rfl⟩:=vals1 r2;exact⟨a,o,n,t1,t3,rfl,ho,hc,hd⟩
theorem z2A:yN X (.builtin "sorted") (zbK X.K):=by
 intro pins s O H xs us Q I r h;obtain⟨l,ys,ps,p,rfl,hq,len,h2,h64,hps,he,hp,hpl,q⟩:=h;obtain⟨u,rfl,rx⟩:=vals1 r;cases rx;obtain⟨its,r',pl,hz⟩:=I.list hq;have hlen:=r'.length;refine z7T (ps:=ps) (p:=p) pl.isList (z5d I r' len hps) (by omega) (by omega) he ?_;obtain⟨c',e⟩:=_dU s.heap its (kU its p);refine⟨.ref (s.heap.objs.size+1),_,I.laid (t':=s.toks) (λb o z=>_dq z) (_br _) (show yq X.prog X.w _ (sortedAll s.heap its (kU its p)) _ (.lst (p.toList.map λi=>ys.getD i .non)) from⟨?_,_,c',z2h r' p.toList hp,e⟩),rfl,q _ (I.hok.fresh (_br _))⟩;rw[_w,hpl];exact hz
def z1P:List D->Sto->R D
 | [d],s=>match listOf s d with
  | some xs=>match vY xs with
   | some ps=>if 2<=xs.length/\xs.length<64 then match kev ps.length (λi j=>xi (ps.getD i (0,"")) (ps.getD j (0,""))) (kas_sort ps.length) with
     | some p=>if p.toList.all (λi=>decide (i<xs.length))=true/\p.toList.length=xs.length then .ok (.lst (p.toList.map λi=>xs.getD i .non)) s else .no | none=>.no else .no | none=>.no
  | none=>.no
 | _,_=>.no
theorem kB{mg:Gm}{H:Hp}{Y:List Addr}:∀{xs:List D}{ps:List (Int×Str)}{vs:List V},vY xs=some ps->zm mg H Y xs vs->xs.length=ps.length/\ ∀i,i<ps.length->∃a,vs[i]? = some (.ref a)/\SqT mg.K H a [.int (ps.getD i (0,"")).1,.str (ps.getD i (0,"")).2]
 | [],ps,vs,e,h=>by
  simp only[vY,_u]at e;subst e;exact⟨rfl,λi hi=>by simp at hi⟩ | x::xs,ps,vs,e,h=>by
  unfold vY at e;split at e;·simp at *
  ·rename_i a b r z;cases z;cases q:vY xs with
   | none=>rw[q]at e;simp at e | some t=>
    rw[q]at e;simp only[_H,_u]at e;subst e;simp only[zm]at h;obtain⟨v,ws,rfl,h1,h2⟩:=h;obtain⟨l,k⟩:=kB q h2;refine⟨by simp[l],λi hi=>?_⟩;cases i with
    | zero=>
     obtain⟨c,us,rfl,q1,q2⟩:=vT (K:=mg.K) h1;obtain⟨v1,v2,rfl,d1,d2⟩:=z3H q2;cases zN d1;cases jP d2;exact⟨c,rfl,q1⟩ | succ i=>simpa using k i (by simpa using hi)
  ·cases e
theorem zaY:∃r,yN X (.builtin "sorted") r/\jJ X E r z1P:=⟨_,z2A.freeze,λH Y s ds vs Q r hd h=>by
 unfold z1P at h;split at h
 ·split at h
  ·rename_i d xs e;split at h
   ·rename_i ps eps;split at h
    ·rename_i h2;split at h
     ·rename_i p ep;split at h
      ·rename_i hp;obtain⟨v,rfl,dn⟩:=jV hd;obtain⟨a,ws,rfl,q1,q2⟩:=zF r e dn;obtain⟨l,k⟩:=kB eps q2;have hl:=q2.length;have hin:∀i∈p.toList,i<xs.length:=λi hi=>by simpa using _V.mp hp.1 i hi
       exact⟨a,ws,ps,p,rfl,.inl q1,by omega,by omega,by omega,k,ep,λi hi=>by have:=hin i hi;omega,by rw[hp.2];omega,vc r h (z7c q2 _ hin)⟩
      ·exact h.elim
     ·exact h.elim
    ·exact h.elim
   ·exact h.elim
  ·exact h.elim
 ·exact h.elim⟩
end
end Dd
namespace Dd
open L2
def z7N(P:Program)(w:World)(K:W.Frag)(mg:Str->Option Value)(x:Str)(ks:List Str):Prop:= ∃a o es ep kvs,mg x=some (.ref a)/\(a==sysModules)=false/\K.lookup a=some o/\o.ExactDict/\o.data=.dict es ep/\PySem.KeysOf (zy P w) es/\PySem.Pairs (zy P w) es.toList kvs/\kvs.map (·.1)=ks.map Sum.inr/\(kvs.map (·.1)).Nodup
def Itk(ks:List Str):It:=⟨λi _=>i<ks.length,λi H x H'=>H'=H/\∃k,ks[i]? = some k/\x=.str k,λi _=>ks.length<=i⟩
theorem zeM{k:Str}{u:Value}(h:z1s (.inr k) u=true):∃t,u=.str k t:=by
 rcases zS h with⟨i,t,e,_⟩ | ⟨x,t,e,e2⟩;·cases e
 ·cases e;exact⟨t,e2⟩
theorem z8C {P:Program} {w:World} {K:W.Frag} {tg:Expr} {ks:List Str} {a it:Addr} {o:Obj} {es:Array DictEntry} {ep:Nat} {kvs:List (Key×Value)} (hk:K.lookup a=some o) (hx:o.ExactDict) (hd:o.data=.dict es ep) (ko:PySem.KeysOf (zy P w) es) (pr:PySem.Pairs (zy P w) es.toList kvs) (hks:kvs.map (·.1)=ks.map Sum.inr) (nd:(kvs.map (·.1)).Nodup):zbX P w K tg (Itk ks) [it] it (λi h=>h.IsKeyIter it a i kvs.length ep) where
 mem:=by simp
 obj:=λi h st b hb=>by
  have e:b=it:=by simpa using hb
  subst e;obtain⟨o,e,c,d⟩:=st;exact⟨o,e,λv z=>by rw[d]at z;cases z⟩
 keep:=λi h h' st k=>st.at λo e=>k it (by simp) o e;item:=by
  intro X hP hw hK hc i pins s O H E I hf st hg;subst hP hw hK;have hl:kvs.length=ks.length:=by have:=_aq List.length hks;simpa using this
  have hi:i<kvs.length:=by have:i<ks.length:=hg;omega
  have da:Heap.DictAt (zy X.prog X.w) s.heap a kvs ep:=⟨o,es,I.kIn _ o hk,hx,hd,ko,pr,nd⟩;obtain⟨f0,f1,f2,f3,f4,f5⟩:=hf it (by simp);have hkey:(kvs[i].1:Key)=Sum.inr (ks[i]'(by omega)):=by
   have:=_aq (λl=>l[i]?) hks;simp only[_S,_e hi,_e (show i<ks.length by omega),_H,_u]at this;exact this
  refine wpAny_pyNext_dict_item (k:=kvs[i].1) (v:=kvs[i].2) st da (by rw[_e hi]) λkey h' hk' st' sb=>?_;have I1:Inv X pins O H {s with heap:=h'}:=I.turned (t':=s.toks) (λb o hb e=>(sb.2 b hb).trans e) f0 f1 f3 f4 f5;obtain⟨o',e,c,d⟩:=id st';rw[hkey]at hk';obtain⟨t,rfl⟩:=zeM hk';exact⟨_,rfl,z8I (s:={s with heap:=h'}) e c d (by decide) ⟨.str (ks[i]'(by omega)),H,I1,⟨t,rfl⟩,⟨rfl,_,_e (by omega),rfl⟩,st',λb hb=>(hf b hb).1⟩⟩
 done:=by
  intro X hP hw hK hc i pins s O H E I hf st hg;subst hP hw hK;have hl:kvs.length=ks.length:=by have:=_aq List.length hks;simpa using this
  have hi:kvs.length<=i:=by have:ks.length<=i:=hg;omega
  have da:Heap.DictAt (zy X.prog X.w) s.heap a kvs ep:=⟨o,es,I.kIn _ o hk,hx,hd,ko,pr,nd⟩;obtain⟨f0,f1,f2,f3,f4,f5⟩:=hf it (by simp);exact wpAny_pyNext_dict_end (I.ok.hd hc) st da (List.getElem?_eq_none_iff.mpr hi) λh' eb=>⟨rfl,I.turned (t':=s.toks) (λb o hb e=>eb b o hb e) f0 f1 f3 f4 f5⟩
 self:=λ_ _ _ _ _ st h=>wpAny_pyIter_keyiter st h
section
variable {X:Cx}{E:XK}{tg:Expr}{p:Pos}{x:Str}{ks:List Str}
theorem zeq(hT:z7N X.prog X.w X.K X.mg x ks)(hg:Gl X x)(hdb:(x==("__debug__":Str))=false:=by decide):PI X tg (.Name x p) (λO H R=>R (Itk ks) H):=by
 intro pins s O H R I h;obtain⟨a,o,es,ep,kvs,hm,hsm,hk,hx,hd,ko,pr,hks,nd⟩:=hT;refine thn (z3a hg hm (show yg (.ref a) (.ref a) from rfl) hdb pins s O H (λv H1=>v=.ref a/\H1=H) I ⟨rfl,rfl⟩) λv s1 ⟨x1,H1,I1,r1,e1,e2⟩=>?_;subst e1 e2;cases r1;refine wpAny_pyIter_dict hsm (⟨o,es,I1.kIn _ o hk,hx,hd,ko,pr,nd⟩:Heap.DictAt (zy X.prog X.w) s1.heap a kvs ep) ?_;refine⟨s1.heap.objs.size,[s1.heap.objs.size],_,_,H1,rfl,I1.kept (t':=s1.toks) λb o e=>_c _ e,z8C (ks:=ks) hk hx hd ko pr hks nd,⟨_,_g _ rfl,rfl,rfl⟩,λb hb=>?_,h⟩;have e:b=s1.heap.objs.size:=by simpa using hb
 subst e;exact I1.fpOk (_h _) (I1.hok.fresh (_h _))
def z94(ks:List Str):FI:=λ_ s=>.ok (ks.map D.str,[]) s
theorem zgY(hT:z7N X.prog X.w X.K X.mg x ks)(hg:Gl X x)(hdb:(x==("__debug__":Str))=false:=by decide):RI X E tg (.Name x p) (z94 ks):= z1H (zeq hT hg hdb) λO H Q ⟨Y,ρ,s,r,en,h⟩=>by
  unfold z94 at h;refine h.here r λH2 Y2 s2 stp2 _ i=>⟨λd hd=>?_,λhl=>?_⟩
  ·have hi:i<ks.length:=by
    have:=(_d.mp hd).1;simpa using this
   refine⟨hi,λx H' ⟨e1,k,e2,e3⟩=>?_⟩;subst e1 e3;refine⟨Y2,.refl stp2.rep,?_⟩;have e4:d=D.str k:=by
    simp only[_S,e2,_H,_u]at hd;exact hd.symm
   rw[e4];simp[Den]
  ·show ks.length<=i;simpa using hl
@[simp] theorem zed (ks:List Str)(ρ:Ev)(s:Sto):z94 ks ρ s=.ok (ks.map D.str,[]) s:=id rfl
end
end Dd
namespace L2
theorem z3c(its:List Value):slicePick its.toArray none none (some (-1))=its.reverse.toArray:=by
 unfold slicePick;have e:sliceRange (sliceBounds none none (some (-1)) its.toArray.size).1 (sliceBounds none none (some (-1)) its.toArray.size).2.1 (sliceBounds none none (some (-1)) its.toArray.size).2.2=(List.range its.length).map λk=>its.length-1-k:=by
  simp only[sliceBounds,_au,_q];unfold sliceRange;have c:(if (-1:Int) > 0 then (if ((its.length:Int)-1) < -1 then (-1-((its.length:Int)-1)+-1-1) / -1 else 0) else if ((its.length:Int)-1) > -1 then (((its.length:Int)-1) - -1 - -1-1) / - -1 else 0).toNat=its.length:=by
   rw[_i (by decide)];by_cases h:its.length=0;·rw[h];rfl
   ·rw[_f (by omega)];have:(((its.length:Int)-1) - -1 - -1-1) / - -1=its.length:=by simp
    rw[this];simp
  simp only[show ¬ ((-1:Int) > 0) by decide,_P]at c ⊢;rw[c];refine _ay λk hk=>?_;have:=_Q.mp hk;omega
 rw[e];congr 1;have key:∀k,k<=its.length->((List.range k).map λk=>its.length-1-k).filterMap (λx=>its.toArray[x]?)=its.reverse.take k:=by
  intro k;induction k with
  | zero=>simp | succ k ih=>
   intro hk;rw[List.range_succ,_bV,List.filterMap_append,ih (by omega)];have hl:k<its.reverse.length:=by simp;omega
   rw[List.take_succ,_e hl];have h2:its.length-1-k<its.length:=by omega
   simp[h2]
 rw[key _ (_h _),_b9 (by simp)]
section
variable {X:Cx}{e m:Expr}{te:TE}{pos p2:Pos}
def zk5(K:W.Frag)(te:TE):TE:=λO H Q=>te O H λx H1=>∃a xs,x=.ref a/\SqL K H1 a xs/\∀p,H1 p=none->Q (.ref p) (upd H1 p (.lst xs.reverse))
theorem zg4 (he:PE X e te) (hm:∀(pins:List (Addr×Obj)) (s:Shared) (O:St) (H:Hp),Inv X pins O H s->wpAny (model X.prog X.w) X.A (evalPart (some m) X.env) (λu s'=>∃t,u=.int (-1) t/\Inv X pins O H s') X.xe s): PE X (.Subscript e (.Slice none none (some m) p2) pos) (zk5 X.K te):=by
 intro pins s O H Q I h;refine Subscript_ (thn (he pins s O H _ I h) λv s1 ⟨x,H1,I1,r1,q1⟩=>?_);refine wpAny_Slice ?_;rw[evalPart_none];refine _b (_b ?_);refine thn (hm pins s1 O H1 I1) λu s3 ⟨t,eu,I3⟩=>?_;subst eu;have I4:Inv X pins O H1 {s3 with heap:=s3.heap.push {cls:=.type "slice",data:=.fields #[.none,.none,.int (-1) t]}}:=I3.kept (t':=s3.toks) λb ob q=>_c _ q;obtain⟨a,xs,rfl,hx,q⟩:=q1;cases r1;obtain⟨its,r,ht,hz⟩:=I4.list hx;show wpAny (model X.prog X.w) X.A (subscriptTail e (.Slice none none (some m) p2) (.ref a) (.ref s3.heap.objs.size)) (EP X pins O Q) X.xe {s3 with heap:=s3.heap.push {cls:=.type "slice",data:=.fields #[.none,.none,.int (-1) t]}};refine tail_any (ops:=[.ref a,.ref s3.heap.objs.size]) ht.isList.typeIs _dd.lookup ?_ (by with_unfolding_all rfl);have hlen:=r.length;refine wpAny_getItem_list_slice ht.isList (Heap.IsSliceOf.new ..) .none .none (.int _ _) (by simp) ?_ (by rw[_q]<;>omega);rw[z3c];refine⟨.ref _,_,I4.laid (t':=s3.toks) (o:=.lst xs.reverse) (λb ob q=>_c _ q) (_h _) ?_,rfl,q _ (I4.hok.fresh (_h _))⟩;have hr:yd xs.reverse its.reverse:=by
  clear hx hz ht q I4 hlen;induction r with
  | nil=>exact .nil | cons p _ ih=>rw[_aB,_aB];exact ih.append (.cons p .nil)
 exact⟨by simpa using hz,_,0,hr,_g _ rfl⟩
end
end L2
namespace Dd
open L2
section
variable {X:Cx}{E:XK}{e:Expr}{pos p2 p3 p4:Pos}
def z4F(f:FE):FE:=fun ρ s=>(f ρ s).bind λd s1=>match listOf s1 d with
 | some xs=>.ok (.lst xs.reverse) s1 | none=>.no
theorem za2 {j:Nat} {f:FE} (he:RE X E e f):RE X E (.Subscript e (.Slice none none (some (.UnaryOp .USub (.Constant (.int 1) j p3) p4)) p2) pos) (z4F f):= zQ (zg4 he λpins s O H I=>by
  rw[evalPart_some];refine thn ((zid (pos:=p4) zdo (zdY (i:=1) (j:=j) (pos:=p3))) pins s O H (λv H1=>v=.int (-1)/\H1=H) I ?_) λu s1 ⟨x,H1,I1,r1,e1,e2⟩=>?_;·exact⟨1,rfl,rfl,rfl⟩
  ·subst e1 e2;obtain⟨t,rfl⟩:=r1;exact⟨t,rfl,I1⟩).freeze λO H Q ⟨Y,ρ,s,r,en,h⟩=>by
  unfold z4F at h;refine⟨Y,ρ,s,r,en,(okR.bind (Dn:=Den (gm X)) h).imp λv H1 ⟨Y1,s1,d,stp,dn,h1⟩=>?_⟩;split at h1
  ·rename_i xs ex;obtain⟨a,ws,rfl,q1,q2⟩:=zF stp.rep ex dn;exact⟨a,ws,rfl,.inl q1,vc stp.rep h1 q2.rev⟩
  ·exact h1.elim
@[simp] theorem z8T (f:FE)(ρ:Ev)(s:Sto):z4F f ρ s=(f ρ s).bind λd s1=>match listOf s1 d with
 | some xs=>.ok (.lst xs.reverse) s1 | none=>.no:=id rfl
end
theorem z0E {P:Program} {w:World} {K:W.Frag}:∀{es:List DictEntry} {tb:List (Str×Str)},z1j K es (tb.map (·.2))=tb.map (λp=>(PyData.keyHash w.params p.1,some p.1,true))-> ∃kvs:List (Key×Value),PySem.Pairs (zy P w) es kvs/\kvs.map (·.1)=(tb.map Prod.fst).map Sum.inr
 | [],[],_=>⟨[],.nil,rfl⟩ | [],_::_,h=>by simp[z1j]at h | _::_,[],h=>by simp[z1j]at h | e::es,(k0,y0)::tb,h=>by
  simp only[_j,z1j,_bi,_bB]at h;obtain⟨⟨h1,h2,h3⟩,h4⟩:=h;obtain⟨kvs,p,q⟩:=z0E (P:=P) (w:=w) h4;obtain⟨hh,kk,vv⟩:=e;simp only at h1 h2 h3;cases kk with
  | str ks t=>
   simp only[z51,_u]at h2;subst h2;exact⟨(.inr ks,vv)::kvs,.cons (jA ks t) rfl p,by simp[q]⟩ | _=>simp[z51]at h2
theorem zbF {P:Program} {w:World} {K:W.Frag} {h:Heap} {mg:Str->Option Value} {x:Str} {tb:List (Str×Str)} (X:K.In h) (G:h.Ns mainGlobals mg) (e:zak K x (tb.map (·.2))=zgM w tb) (nd:(tb.map Prod.fst).Nodup):z7N P w K mg x (tb.map Prod.fst):=by
 unfold zak zgM at e;split at e
 ·rename_i a ha;split at e
  ·rename_i c d es ep sl hl;simp only[_u,_bB]at e;obtain⟨e1,e2,e3,e4,e5⟩:=e;obtain⟨i1,i2,i3⟩:=z2p (P:=P) X G e5;obtain⟨kvs,p,q⟩:=z0E (P:=P) (w:=w) e5;have hc:c=.type "dict":=by
    unfold z0A at e1;split at e1
    ·rename_i n;have:n="dict":=by simpa using e1
     rw[this]
    ·cases e1
   have hd:d=none:=by simpa using e2
   have hs:sl=#[]:=by
    have:sl.size=0:=by simpa using e3
    exact _cr this
   have ea:es.toList.toArray=es:=by simp
   rw[ea]at i1;refine⟨a,_,es,ep,kvs,W.mg_of X G ha,e4,hl,⟨hc,hd,hs⟩,rfl,i1,p,q,?_⟩;rw[q];exact List.Pairwise.map _ (λa b h z=>h (Sum.inr.inj z)) nd
  ·cases e
 ·cases e
theorem zgF{P:Program}{q:Ask}{w:World}{K:W.Frag}{h:Heap}{mg:Str->Option Value}(X:K.In h)(G:h.Ns mainGlobals mg)(e:z9N q K=valS q w)(x:Str)(tb:List (Str×Str))(hx:(x,tb)∈q.ts)(nd:(tb.map Prod.fst).Nodup):z7N P w K mg x (tb.map Prod.fst):=zbF X G (z50 (_aq (λz=>z.2.2.2.1) e) (x,tb) hx) nd
def jO:List D->Option (List Key)
 | []=>some [] | .int i::r=>(jO r).map (Sum.inl i::·) | .str x::r=>(jO r).map (Sum.inr x::·) | _=>none
def vV:D->Option V
 | .int i=>some (.int i) | .bl b=>some (.bl b) | _=>none
def vD:V->D
 | .int i=>.int i | .bl b=>.bl b | _=>.non
def encD(kvs:List (List Key×V)):List D:=kvs.map λp=>.tup [.tup (p.1.map z4W),vD p.2]
def z3k:List D->Option (List (List Key×V))
 | []=>some [] | .tup [.tup ks,.int i]::r=>(jO ks).bind λk=>(z3k r).map ((k,V.int i)::·) | .tup [.tup ks,.bl b]::r=>(jO ks).bind λk=>(z3k r).map ((k,V.bl b)::·) | _=>none
theorem z0c:∀k:List Key,jO (k.map z4W)=some k
 | []=>rfl | .inl i::k=>by simp[z4W,jO,z0c k] | .inr x::k=>by simp[z4W,jO,z0c k]
theorem z2I:∀{ds:List D}{k:List Key},jO ds=some k->ds=k.map z4W
 | [],k,e=>by simp[jO]at e;subst e;rfl | .int i::r,k,e=>by
  simp only[jO,_x]at e;obtain⟨a,h1,rfl⟩:=e;rw[z2I h1];rfl | .str i::r,k,e=>by
  simp only[jO,_x]at e;obtain⟨a,h1,rfl⟩:=e;rw[z2I h1];rfl | .non::_,_,e=>by simp[jO]at e | .bl _::_,_,e=>by simp[jO]at e | .tup _::_,_,e=>by simp[jO]at e | .lst _::_,_,e=>by simp[jO]at e | .dct::_,_,e=>by simp[jO]at e | .loc _::_,_,e=>by simp[jO]at e | .dlo _::_,_,e=>by simp[jO]at e | .fn _::_,_,e=>by simp[jO]at e | .exc _::_,_,e=>by simp[jO]at e | .scr _::_,_,e=>by simp[jO]at e
theorem z04{mg:Gm}{H:Hp}{Y:List Addr}:∀{k:List Key}{vs:List V},zm mg H Y (k.map z4W) vs->vs=k.map kV
 | [],_,h=>by simpa[zm] using h | .inl i::k,vs,h=>by
  simp only[_j,zm]at h;obtain⟨v,r,rfl,h1,h2⟩:=h;rw[zN h1,z04 h2];rfl | .inr i::k,vs,h=>by
  simp only[_j,zm]at h;obtain⟨v,r,rfl,h1,h2⟩:=h;rw[jP h1,z04 h2];rfl
theorem z3l{mg:Gm}{H:Hp}{Y:List Addr}:∀(k:List Key),zm mg H Y (k.map z4W) (k.map kV)
 | []=>by simp[zm] | .inl i::k=>by simp only[_j];exact zm.cons (by simp[z4W,kV,Den]) (z3l k) | .inr i::k=>by simp only[_j];exact zm.cons (by simp[z4W,kV,Den]) (z3l k)
theorem z9K{v:V}{x:D}(h:z8i v=some x):x=vD v:=by cases v<;>simp[z8i]at h<;>simp[vD,h]
theorem zhF{d:D}{u:V}(h:vV d=some u):z8i u=some d/\vD u=d:=by cases d<;>simp[vV]at h<;>subst h<;>exact⟨rfl,rfl⟩
theorem zi9{mg:Gm}{H:Hp}{Y:List Addr}{d:D}{u v:V}(h:vV d=some u)(dn:Den mg H Y d v):v=u:=by cases d with
 | int i=>simp[vV]at h;subst h;exact zN dn | bl b=>simp[vV]at h;subst h;exact jq dn | _=>simp[vV]at h
def zaU(kvs:List (List Key×V)):Prop:=∀p∈kvs,(z8i p.2).isSome=true
theorem z0O:∀{xs:List D}{kvs:List (List Key×V)},zd0 xs kvs->xs=encD kvs/\zaU kvs/\z3k xs=some kvs
 | [],kvs,h=>by simp only[zd0]at h;subst h;exact⟨rfl,(λp hp=>by simp at hp),rfl⟩ | d::ds,kvs,h=>by
  simp only[zd0]at h;obtain⟨k,v,x,r,rfl,h1,rfl,h2⟩:=h;obtain⟨i1,i2,i3⟩:=z0O h2;refine⟨?_,λp hp=>?_,?_⟩
  ·rw[z9K h1];show _::ds=encD ((k,v)::r);rw[encD,_j];congr 1
  ·rcases _p.mp hp with rfl | hp;·rw[h1];rfl
   ·exact i2 p hp
  ·cases v with
   | int i=>simp only[z8i,_u]at h1;subst h1;simp[z3k,z0c,i3] | bl b=>simp only[z8i,_u]at h1;subst h1;simp[z3k,z0c,i3] | _=>simp[z8i]at h1
theorem z2B:∀{kvs:List (List Key×V)},zaU kvs->zd0 (encD kvs) kvs
 | [],_=>rfl | (k,v)::r,h=>by
  obtain⟨x,hx⟩:=_am.mp (h (k,v) (by simp));refine⟨k,v,x,r,rfl,hx,?_,z2B λp hp=>h p (by simp[hp])⟩;rw[z9K hx]
theorem dec_enc{kvs:List (List Key×V)}(h:zaU kvs):z3k (encD kvs)=some kvs:=(z0O (z2B h)).2.2
theorem z3z{mg:Gm}{H:Hp}{Y:List Addr}{xs:List D}{kvs':List (Key×V)}{kvs:List (List Key×V)}(h:z3E mg H Y xs kvs')(hd:z3k xs=some kvs):kvs'=[]:=by cases xs with
 | nil=>exact h | cons d ds=>
  obtain⟨k,ys,b,vs,r,rfl,h1,h2,h3⟩:=h;rcases h2 with⟨rfl,_⟩ | ⟨rfl,_⟩<;>simp[z3k]at hd
theorem Rep.dicU{mg:Gm}{H:Hp}{Y:List Addr}{s:Sto}(r:Rep mg H Y s){l:Nat}{xs:List D}{a:Addr}{kvs:List (List Key×V)}(h:s[l]? = some xs)(ha:Y[l]? = some a)(k:IsC H a)(hd:z3k xs=some kvs):H a=some (.dT kvs)/\zaU kvs/\xs=encD kvs:=by
 rcases r.dic h ha k with⟨kvs',q1,q2⟩ | ⟨o,kvs',ys,q1,rfl,q2⟩ | ⟨kvs',g,q1,q2⟩ | ⟨o,kvs',ys,q1,rfl,q2⟩
 ·obtain⟨z1,z2,z3⟩:=z0O q2;rw[z3]at hd;cases hd;exact⟨q1,z2,z1⟩
 ·simp[z3k]at hd
 ·exact absurd (z3z q2 hd) (by intro z;exact g z)
 ·simp[z3k]at hd
theorem z3f:∀k:List Key,D.flat.flats (k.map z4W)=true
 | []=>rfl | .inl i::k=>by simp[z4W,D.flat.flats,D.flat,z3f k] | .inr i::k=>by simp[z4W,D.flat.flats,D.flat,z3f k]
theorem z2o:∀kvs:List (List Key×V),D.flat.flats (encD kvs)=true
 | []=>rfl | (k,v)::r=>by
  have:(vD v).flat=true:=by cases v<;>rfl
  simp only[encD,_j,D.flat.flats,D.flat,z3f,this,_cx,_bN];exact z2o r
theorem zaU.put{kvs:List (List Key×V)}{k:List Key}{u:V}(h:zaU kvs)(hu:(z8i u).isSome=true):zaU (uV kvs k u):=by
 unfold uV;split
 ·intro p hp;obtain⟨q,hq,rfl⟩:=_A.mp hp;split;·exact hu
  ·exact h q hq
 ·intro p hp;rcases _M.mp hp with hp | hp;·exact h p hp
  ·simp only[_p,_bJ,or_false]at hp;subst hp;exact hu
section
variable {X:Cx}{E:XK}{o i e value:Expr}{pos pos':Pos}
def zhf:FE:=λ_ s=>.ok (.dlo s.length) (s++[[]])
theorem zhO:RE X E (.Dict [] [] pos) zhf:=zQ zcU λO H Q ⟨Y,ρ,s,r,en,h⟩ p hp=>by
 refine h _ _ _ (yX.layC r hp (o:=.dT []) (.inr (.inl ⟨[],zC,rfl⟩)) rfl) ?_;simp only[Den];exact⟨p,rfl,by rw[<- r.len];simp,.inl ⟨[],zC⟩⟩
def zaO(fo fk fv:FE):FS:=fun ρ s=>(fv ρ s).bind λv s1=>(fo ρ s1).bind λo s2=>(fk ρ s2).bind λk s3=>match o,k,vV v with
 | .dlo l,.tup ks,some u=>match (s3[l]?).bind z3k,jO ks with
  | some kvs,some key=>if kvs.length<cap then .ok (.nx ρ) (s3.set l (encD (uV kvs key u))) else .no | _,_=>.no
 | _,_,_=>.no
theorem zgP {fo fk fv:FE} (hu:X.A.units+64<cLine) (hv:RE X E value fv) (ho:RE X E o fo) (hi:RE X E i fk) (hs:swapsWith value (some (.Subscript o i pos')) pos.line X.env=pure false:=by rfl): RS X E (.Assign [.Subscript o i pos'] value pos) (zaO fo fk fv):= wq (zew (by omega) ho hi hv hs) λD O H ⟨Y,ρ,s,r,en,h⟩=>by
  unfold zaO at h;refine zM (k:=fun ρ v s1=>(fo ρ s1).bind λo s2=>(fk ρ s2).bind λk s3=>match o,k,vV v with
   | .dlo l,.tup ks,some u=>match (s3[l]?).bind z3k,jO ks with
    | some kvs,some key=>if kvs.length<cap then R.ok (Fl.nx ρ) (s3.set l (encD (uV kvs key u))) else .no | _,_=>.no
   | _,_,_=>.no) r en h _ λv H1 Y1 s1 d r1 en1 dn stp h1=>?_;refine zM (k:=fun ρ o s2=>(fk ρ s2).bind λk s3=>match o,k,vV d with
   | .dlo l,.tup ks,some u=>match (s3[l]?).bind z3k,jO ks with
    | some kvs,some key=>if kvs.length<cap then R.ok (Fl.nx ρ) (s3.set l (encD (uV kvs key u))) else .no | _,_=>.no
   | _,_,_=>.no) r1 en1 h1 _ λv2 H2 Y2 s2 od r2 en2 dn2 stp2 h2=>?_;refine zM (k:=fun ρ k s3=>match od,k,vV d with
   | .dlo l,.tup ks,some u=>match (s3[l]?).bind z3k,jO ks with
    | some kvs,some key=>if kvs.length<cap then R.ok (Fl.nx ρ) (s3.set l (encD (uV kvs key u))) else .no | _,_=>.no
   | _,_,_=>.no) r2 en2 h2 _ λv3 H3 Y3 s3 kd r3 en3 dn3 stp3 h3=>?_;split at h3
  ·rename_i l ks u eu;split at h3
   ·rename_i kvs key ek edk;split at h3
    ·rename_i hl;have dv:=(dn.mono stp2).mono stp3;obtain rfl:u=v:=(zi9 eu dv).symm;have dov:=dn2.mono stp3;simp only[Den]at dov;obtain⟨a,rfl,e1,ka⟩:=dov;obtain⟨xs,ex,edc⟩:=_ak.mp ek;obtain⟨q1,z2,z1⟩:=r3.dicU ex e1 ka edc;rw[z2I edk]at dn3;simp only[Den]at dn3;obtain⟨b,vs,rfl,hb,hd⟩:=dn3;rw[z04 hd]at hb;have ap:=z2.put (k:=key) (u:=u) (by rw[(zhF eu).1];rfl);have stp4:=yX.putC (l:=l) (o:=.dT (uV kvs key u)) r3 e1 (.putC ⟨_,q1⟩ (.inl ⟨_,rfl⟩)) (.inr (.inl ⟨_,zC,z2B ap⟩)) (z2o _);exact⟨a,_,rfl,ziE.t q1 hb (_v hl (by decide)),h3 (.nx O) _ _ stp4 (en3.mono stp4)⟩
    ·exact h3.elim
   ·exact h3.elim
  ·exact h3.elim
end
theorem zbs {prog:Program} {w:World} {A:Around} {E:Value->Shared->Prop} {s:Shared} {it d:Addr} {i ep:Nat} {o:Obj} {es:Array DictEntry} {e:DictEntry} {Q:Option Value->Shared->Prop} (hit:s.heap.IsKeyIter it d i es.size ep) (hod:s.heap.get? d=some o) (hdd:o.data=.dict es ep) (he:es[i]? = some e) (hQ:∀h':Heap,h'.IsKeyIter it d (i+1) es.size ep->Heap.SameBut it s.heap h'->Q (some e.key) {s with heap:=h'}):wpAny (model prog w) A (pyNext (.ref it)) Q E s:=by
 obtain⟨oi,ho,hc,hd⟩:=id hit;refine _a (_bA (_U hit.typeIs _aG (_I _aG hit.typeIs _cD ?_ (_cs _))));refine _a (_b (_a (_a (_a (_aV hit.typeIs (_b (_a (_ca ho hd ?_))))))));have hown:Builtin.Dict_items.ownsTuple "dict_keyiterator"=false:=by decide +kernel
 rw[hown];simp only[_s,_P,_c1];show wpAny _ _ (if (Value.ref d==Value.none)=true then _ else _) _ _ _;rw[_i (by simp)];refine _a (_b (_a (_bl hod hdd ?_)));rw[_i (by simp)];refine _a (_b (_a (_bx hod hdd ?_)));rw[_i (by simp)];refine _b ?_;have hi:(if (i:Int)<0 then none else es[(i:Int).toNat]?)=some e:=by rw[_i (by omega)];simpa using he
 show wpAny _ _ (match (if (i:Int)<0 then none else es[(i:Int).toNat]?) with | some e=>_ | none=>_) _ _ _;rw[hi];refine _a (_a (_aV hit.typeIs (_b ?_)));rw[hown];refine _a (wpAny_isOneOf_keyiter hit.typeIs ?_);refine _a (_aU ho hd (show 1<4 by decide) ?_);have st':∀g:Array Value->Array Value,g #[Value.ref d,Value.int (i:Int) 0,Value.int (es.size:Int) 0,Value.int (ep:Int) 0]=#[Value.ref d,Value.int ((i+1:Nat):Int) 0,Value.int (es.size:Int) 0,Value.int (ep:Int) 0]->(s.heap.update it (Obj.mapFields g)).IsKeyIter it d (i+1) es.size ep:=λg hg=>by
  obtain⟨c0,d0,da,sl⟩:=oi;simp only at hc hd;subst hc hd;refine⟨_,_an _ ho rfl,rfl,?_⟩;show Data.fields (g _)=_;rw[hg]
 have st2:=st' (λx=>x.setIfInBounds 1 (rawInt ((i:Int)+1))) (by simp[rawInt]);refine _a (_X ?_);refine _a (wpAny_isOneOf_keyiter st2.typeIs ?_);rw[_f (by decide +kernel)];refine _b (_b ⟨_,rfl,_b ?_⟩);exact hQ _ st2 (_ah ..)
theorem zel {prog:Program} {w:World} {A:Around} {E:Value->Shared->Prop} {s:Shared} {it d:Addr} {i ep:Nat} {o:Obj} {es:Array DictEntry} {Q:Option Value->Shared->Prop} (hh:A.handled=none) (hit:s.heap.IsKeyIter it d i es.size ep) (hod:s.heap.get? d=some o) (hdd:o.data=.dict es ep) (he:es[i]? = none) (hQ:∀h':Heap,Heap.ExtBut it s.heap h'->Q none {s with heap:=h'}):wpAny (model prog w) A (pyNext (.ref it)) Q E s:=by
 obtain⟨oi,ho,hc,hd⟩:=id hit;refine _a (_bA (_U hit.typeIs _aG (_I _aG hit.typeIs _cD ?_ (_cs _))));refine _a (_b (_a (_a (_a (_aV hit.typeIs (_b (_a (_ca ho hd ?_))))))));have hown:Builtin.Dict_items.ownsTuple "dict_keyiterator"=false:=by decide +kernel
 rw[hown];simp only[_s,_P,_c1];show wpAny _ _ (if (Value.ref d==Value.none)=true then _ else _) _ _ _;rw[_i (by simp)];refine _a (_b (_a (_bl hod hdd ?_)));rw[_i (by simp)];refine _a (_b (_a (_bx hod hdd ?_)));rw[_i (by simp)];refine _b ?_;have hi:(if (i:Int)<0 then none else es[(i:Int).toNat]?)=none:=by rw[_i (by omega)];simpa using he
 show wpAny _ _ (match (if (i:Int)<0 then none else es[(i:Int).toNat]?) with | some e=>_ | none=>_) _ _ _;rw[hi];refine _a (_a (_aV hit.typeIs (_b ?_)));rw[hown];refine _a (_aU ho hd (show 0<4 by decide) ?_);show wpAny _ _ (newExc (.type "StopIteration") [] >>= _) _ _ _;refine _a ?_;simp only[newExc,newTuple];refine _a (_G ?_ (by size_fits));refine _a (m:=firstArgMember _ _) (_cB (a:=Value.none) (by first | rfl | (simp only[firstArgMember];rfl)) ?_);refine _G ?_ (by size_fits);simp only[raiseNew];refine _a (_dn ?_);first | rw[show A.in1.handled=none from hh] | rw[hh]
 refine _a (_b (wpAny_throw ?_));refine _a (_bI (T:="StopIteration") (b:=true) ⟨_,_g _ rfl,rfl⟩ _cY ?_);exact _b (hQ _ (((_ah ..).extBut.push _).push _))
section
variable {prog:Program}{w:World}{A:Around}{E:Value->Shared->Prop}{s:Shared}{d:Addr}{es:Array DictEntry}{ep:Nat}
def zbp(h:Heap)(d:Addr)(es:Array DictEntry)(ep:Nat):Prop:=∃o,h.get? d=some o/\o.ExactDict/\o.data=.dict es ep
theorem zbp.typeIs(h:zbp s.heap d es ep):s.TypeIs (.ref d) "dict":=let ⟨o,ho,hc,_⟩:=h;⟨o,ho,hc.1⟩
theorem zbp.at{h h':Heap}(x:zbp h d es ep)(e:∀o,h.get? d=some o->h'.get? d=some o):zbp h' d es ep:=let ⟨o,ho,r⟩:=x;⟨o,e o ho,r⟩
theorem zcG {Q:Value->Shared->Prop} (hd:(d==sysModules)=false) (hm:zbp s.heap d es ep) (hQ:Q (.ref s.heap.objs.size) {s with heap:=s.heap.push {cls:=.type "dict_keyiterator",data:=.fields #[.ref d,.int 0 0,.int es.size 0,.int ep 0]}}): wpAny (model prog w) A (pyIter (.ref d)) Q E s:=by
 obtain⟨o,ho,hc,hdat⟩:=id hm;have hT:=hm.typeIs;refine _cb hT F.slot_dict_iter (_I F.slot_dict_iter hT F.entry_dict_iter ?_ (F.args_dict_iter_1 _));unfold Builtin.«dict.__iter__»;refine _a ?_;unfold Builtin.Dict.dictSlotNone;refine _a (wpAny_notOrdered_dict hT ?_);show wpAny _ _ (pure (Value.ref d)) _ _ s;refine _b ?_;show wpAny _ _ (Builtin.Dict.showsAll d >>= _) _ _ s;unfold Builtin.Dict.showsAll;rw[_i (by rw[hd];exact _R)];refine _a (_b (_a (_bl ho hdat (_a (_bx ho hdat ?_)))));refine _a (_G (_b ⟨_,rfl,"dict_keyiterator",_,⟨_,_g _ rfl,rfl⟩,_aG.lookup,?_⟩));simpa[rawInt] using hQ
end
def z2e(kvs:List (List Key×V)):List D:=kvs.map λp=>.tup (p.1.map z4W)
def ze1:List D->Option (List Int)
 | []=>some [] | .int i::r=>(ze1 r).map (i::·) | _=>none
def zdZ:D->Option (List Int)
 | .tup ds=>ze1 ds | _=>none
def z0g:List D->Option (List (List Int))
 | []=>some [] | d::ds=>match zdZ d,z0g ds with | some n,some ns=>some (n::ns) | _,_=>none
theorem z74:∀ns:List Int,ze1 (ns.map D.int)=some ns
 | []=>rfl | i::r=>by simp[ze1,z74 r]
theorem zaF:∀{ds:List D}{ns:List Int},ze1 ds=some ns->ds=ns.map D.int
 | [],_,e=>by simp[ze1]at e;subst e;rfl | d::r,ns,e=>by cases d with
  | int i=>
   simp only[ze1,_x]at e;obtain⟨a,h1,rfl⟩:=e;rw[zaF h1];rfl | _=>simp[ze1]at e
theorem z6w(ns:List Int):zdZ (.tup (ns.map D.int))=some ns:=z74 ns
theorem zfO{d:D}{ns:List Int}(e:zdZ d=some ns):d=.tup (ns.map D.int):=by cases d with
 | tup ds=>simp only[zdZ]at e;rw[zaF e] | _=>simp[zdZ]at e
theorem z11:∀L:List (List Int),z0g (L.map λns=>.tup (ns.map D.int))=some L
 | []=>rfl | n::L=>by simp only[_j,z0g,z6w,z11 L]
def AtN(H:Hp)(v:V)(ns:List Int):Prop:=∃b,v=.ref b/\H b=some (.tup (ns.map V.int))
theorem z7b:∀{a b:List Int},a.map V.int=b.map V.int->a=b
 | [],[],_=>rfl | [],_::_,h=>by simp at h | _::_,[],h=>by simp at h | x::a,y::b,h=>by
  simp only[_j,_bi,V.int.injEq]at h;rw[h.1,z7b h.2]
theorem z7q{mg:Gm}{H:Hp}{Y:List Addr}{d:D}{v:V}{ns:List Int}(h:zdZ d=some ns)(dn:Den mg H Y d v):AtN H v ns:=by
 rw[zfO h]at dn;simp only[Den]at dn;obtain⟨a,vs,rfl,e,dd⟩:=dn;have:∀{ns:List Int}{vs:List V},zm mg H Y (ns.map D.int) vs->vs=ns.map V.int:=by
  intro ns;induction ns with
  | nil=>intro vs h;simpa[zm] using h | cons i r ih=>
   intro vs h;simp only[_j,zm]at h;obtain⟨v,r',rfl,h1,h2⟩:=h;rw[zN h1,ih h2];rfl
 rw[this dd]at e;exact⟨a,rfl,e⟩
theorem jN{mg:Gm}{H:Hp}{Y:List Addr}:∀{ds:List D}{vs:List V}{L:List (List Int)},z0g ds=some L->zm mg H Y ds vs->Paired (λv ns=>AtN H v ns) vs L
 | [],_,_,h,dn=>by simp only[z0g,_u]at h;simp only[zm]at dn;subst dn;subst h;exact .nil | d::ds,_,_,h,dn=>by
  simp only[zm]at dn;obtain⟨v,vs,rfl,h1,h2⟩:=dn;simp only[z0g]at h;split at h
  ·rename_i n ns e1 e2;cases h;exact .cons (z7q e1 h1) (jN e2 h2)
  ·cases h
theorem z0t:∀ns:List Int,PyData.canLayAll0 (toPys (ns.map D.int))=true/\PyData.depthAll (toPys (ns.map D.int))<=1
 | []=>by decide | i::k=>by
  have:=z0t k;simp only[_j,xl,toPys,PyData.canLayAll0,PyData.canLay0,PyData.depthAll,PyData.depth,_bN,this.1,true_and];omega
theorem z3w:∀a b:List Int,PyData.eqvAll (toPys (a.map D.int)) (toPys (b.map D.int))=decide (a=b)
 | [],[]=>by simp[toPys,PyData.eqvAll] | [],_::_=>by simp[toPys,PyData.eqvAll] | _::_,[]=>by simp[toPys,PyData.eqvAll] | x::a,y::b=>by
  simp only[_j,toPys,xl,PyData.eqvAll,PyData.eqv,z3w a b,_bi];by_cases h:x=y<;>by_cases h2:a=b<;>simp[h,h2]
section
variable {X:Cx}{pins:List (Addr×Obj)}{O:L2.St}{H:Hp}{s:Shared}
theorem AtN.reads (mg:Gm) {h:Heap} {P:Program} {w:World} (ok:HOk P w H h) {v:V} {u:Value} {ns:List Int} (a:AtN H v ns) (r:yg v u):∃as,Reads h u (xl (.tup (ns.map D.int))) as:=by
 refine Den.reads (mg:=mg) (Y:=[]) (H:=H) (v:=v) ok (by simp only[xl,PyData.canLay0];exact (z0t ns).1) ?_ r;obtain⟨b,rfl,e⟩:=a;simp only[Den];refine⟨b,_,rfl,e,?_⟩;clear e;induction ns with
 | nil=>exact zm.nil | cons i r ih=>exact zm.cons yk ih
theorem AtN.eqAt(mg:Gm){A:Around}{P:Program}{w:World}(ok:HOk P w H s.heap)(hu:A.units+2<cLine){v x:V}{u y:Value}{ns ms:List Int}(a:AtN H v ns)(r:yg v u)(b:AtN H x ms)(q:yg x y): SeqAt.EqAt A s u y (decide (ns=ms)):=by
 obtain⟨as,ra⟩:=a.reads mg ok r;obtain⟨bs,rb⟩:=b.reads mg ok q;have h:=SeqAt.eqAt_reads _ _ A s u y as bs ra rb (by simp only[xl,PyData.canLay0];exact (z0t ns).1) (by simp only[xl,PyData.canLay0];exact (z0t ms).1) (by
  have h1:=(z0t ns).2;have h2:min (xl (.tup (ns.map D.int))).depth (xl (.tup (ms.map D.int))).depth<=(xl (.tup (ns.map D.int))).depth:=Nat.min_le_left _ _;have h3:(xl (.tup (ns.map D.int))).depth<=2:=by simp only[xl,PyData.depth];omega
  omega);rw[show PyData.eqv (xl (.tup (ns.map D.int))) (xl (.tup (ms.map D.int)))=decide (ns=ms) by simp only[xl,PyData.eqv,z3w]]at h;exact h
end
section
variable {X:Cx}{E:XK}
open Classical in
def eqN(H:Hp)(ms:List Int)(u:Value):Bool:=match u with
 | .ref b=>if h:∃ns:List Int,H b=some (.tup (ns.map V.int)) then decide (h.choose=ms) else false | _=>false
theorem zdK{H:Hp}{ms ns:List Int}{v:V}{u:Value}(a:AtN H v ns)(r:yg v u):eqN H ms u=decide (ns=ms):=by
 obtain⟨b,rfl,e⟩:=a;cases (show u=Value.ref b from r);have h:∃ns:List Int,H b=some (.tup (ns.map V.int)):=⟨ns,e⟩;have e2:=e.symm.trans h.choose_spec;simp only[_u,HO.tup.injEq]at e2;simp only[eqN,h,dite_true];rw[<- z7b e2]
theorem z5U{H:Hp}{ms:List Int}:∀{xs:List V}{us:List Value}{L:List (List Int)},yd xs us->Paired (λv ns=>AtN H v ns) xs L->us.any (eqN H ms)=L.any λns=>decide (ns=ms)
 | _,_,_,.nil,.nil=>rfl | y::xs,u::us,ns::L,.cons r t,.cons a p=>by rw[_bn,_bn,zdK a r,z5U t p]
theorem z5C(mg:Gm){H:Hp}{A:Around}{s:Shared}{P:Program}{w:World}(ok:HOk P w H s.heap)(hu:A.units+2<cLine){ms:List Int}{x:V}{v:Value}(a:AtN H x ms)(rx:yg x v): ∀{xs:List V}{us:List Value}{L:List (List Int)},yd xs us->Paired (λv ns=>AtN H v ns) xs L->∀u∈us,SeqAt.EqAt A s u v (eqN H ms u)
 | _,_,_,.nil,.nil=>λu hu=>by cases hu | y::xs,u::us,ns::L,.cons r t,.cons b p=>λu' hu'=>by
  rcases _p.mp hu' with rfl | hu';·rw[zdK b r];exact b.eqAt mg ok hu r a rx
  ·exact z5C mg ok hu a rx t p u' hu'
def zkK(K:W.Frag)(neg:Bool):R2:=λx y H Q=>∃p xs ms L,y=.ref p/\(SqL K H p xs\/SqT K H p xs)/\AtN H x ms/\Paired (λv ns=>AtN H v ns) xs L/\Q (.bl (if neg then !(L.any λns=>decide (ns=ms)) else L.any λns=>decide (ns=ms))) H
theorem zgO(hu:X.A.units+64<cLine):OpR X (compareOp .In) (zkK X.K false):=by
 intro pins s O H x y v u Q I rx ry h;obtain⟨p,xs,ms,L,rfl,hq,fx,fs,q⟩:=h;cases ry;have hu':X.A.in1.units+2<cLine:=by have:X.A.in1.units=X.A.units+1:=rfl;omega
 rcases hq with hq | hq
 ·obtain⟨its,r,pl,hz⟩:=I.list hq;refine SeqAt.in_listAt (eqN H ms) pl.isList (λw hw=>z5C (gm X) I.hok hu' fx rx r fs w (by simpa using hw)) ⟨.bl _,H,I,rfl,?_⟩;rw[show its.toArray.any (eqN H ms)=its.any (eqN H ms) by simp,z5U r fs];exact q
 ·obtain⟨its,r,pl,hz⟩:=I.tuple hq;refine SeqAt.in_tupleAt (eqN H ms) pl (λw hw=>z5C (gm X) I.hok hu' fx rx r fs w (by simpa using hw)) ⟨.bl _,H,I,rfl,?_⟩;rw[show its.toArray.any (eqN H ms)=its.any (eqN H ms) by simp,z5U r fs];exact q
def zgi(neg:Bool)(x y:D)(s:Sto):R D:=match zdZ x,(zY s y).bind z0g with
 | some ms,some L=>.ok (.bl (if neg then !(L.any λns=>decide (ns=ms)) else L.any λns=>decide (ns=ms))) s | _,_=>.no
theorem zg1{neg:Bool}:OpF X E (zkK X.K neg) (zgi neg):=λH Y s d1 d2 v1 v2 Q r h1 h2 h=>by
 unfold zgi at h;split at h
 ·rename_i ms L e1 e2;cases e3:zY s d2 with
  | none=>rw[e3]at e2;cases e2 | some xs=>
   rw[e3]at e2;obtain⟨a,ws,rfl,q1,q2⟩:=vK (K:=X.K) r e3 h2;exact⟨a,ws,ms,L,rfl,q1,z7q e1 h1,jN e2 q2,h.here r wz⟩
 ·exact h.elim
theorem zjz(hu:X.A.units+64<cLine):∃r,OpR X (compareOp .In) r/\OpF X E r (zgi false):=⟨_,zgO hu,zg1⟩
end
end Dd
namespace Zz
abbrev T1(b1:Bool)(h:Heap)(l1:Addr):Heap:=h.push (itO b1 l1)
abbrev T2(b1 b2:Bool)(h:Heap)(l1 l2:Addr):Heap:=(T1 b1 h l1).push (itO b2 l2)
end Zz
namespace Dd
open L2
def lexN:List Int->List Int->Bool
 | [],[]=>false | [],_::_=>true | _::_,[]=>false | x::a,y::b=>if x=y then lexN a b else decide (x<y)
inductive wo:List Value->List Int->Prop | nil:wo [] [] | cons {i t vs ns}:wo vs ns->wo (.int i t::vs) (i::ns)
theorem wo.of_vals:∀{ns:List Int}{us:List Value},yd (ns.map V.int) us->wo us ns
 | [],_,.nil=>.nil | _::_,_,.cons ⟨_,rfl⟩ r=>.cons (wo.of_vals r)
theorem wo.length:∀{us ns},wo us ns->us.length=ns.length
 | _,_,.nil=>rfl | _,_,.cons r=>by simp[r.length]
end Dd
namespace Dd
open L2
section
variable {X:Cx}{E:XK}
theorem kg{α β:Type}{R:α->β->Prop}:∀{xs:List α}{ys:List β},Paired R xs ys->∀(i:Nat)(x:α),xs[i]? = some x->∃y,ys[i]? = some y/\R x y
 | _,_,.nil,i,x,e=>by simp at e | _,_,.cons h r,0,x,e=>by simp at e;subst e;exact⟨_,rfl,h⟩ | _,_,.cons h r,i+1,x,e=>by simpa using kg r i x (by simpa using e)
theorem z1O{α β:Type}{R:α->β->Prop}:∀{xs:List α}{ys:List β},Paired R xs ys->xs.length=ys.length
 | _,_,.nil=>rfl | _,_,.cons h r=>by simp[z1O r]
theorem AtN.tuple{pins:List (Addr×Obj)}{O:L2.St}{H:Hp}{s:Shared}(I:Inv X pins O H s){v:V}{u:Value}{ns:List Int}(a:AtN H v ns)(r:yg v u):∃b its,v=.ref b/\u=.ref b/\s.heap.IsTuple b its/\wo its.toList ns:=by
 obtain⟨b,rfl,e⟩:=a;cases (show u=Value.ref b from r);obtain⟨its,r,pl,hz⟩:=I.tuple (.inl (.inl e));exact⟨b,its.toArray,rfl,rfl,pl,wo.of_vals (by simpa using r)⟩
end
end Dd
namespace L2
section
variable {prog:Program}{w:World}{A:Around}{R:Result->Shared->Prop}{s:Shared}{elt t1 i1 t2 i2:Expr}{scope:Scope}{pos:Pos}{it acc:Value}{env:Env}
theorem z8Z:compTurn (.ListComp elt [⟨t1,i1,[],0⟩,⟨t2,i2,[],0⟩] scope pos) 0 it acc env=(standAt i1.pos >>= λ_=>pyNext it >>= λr=>match r with
  | none=>pure (.done .next) | some v=>letOwnedTupleGo t1 it v >>= λ_=>assign t1 env v >>= λ_=>eval i2 env >>= λx=>standAt i2.pos >>= λ_=>foldedSetIterable i2 env x >>= λx=>holding [x] (pyIter x) >>= λjt=> runOwn (.compStart (.ListComp elt [⟨t1,i1,[],0⟩,⟨t2,i2,[],0⟩] scope pos) 1 jt acc env) env >>= λ_=>again (.compLoop (.ListComp elt [⟨t1,i1,[],0⟩,⟨t2,i2,[],0⟩] scope pos) 0 it acc env)):=by rfl
theorem z96:compTurn (.ListComp elt [⟨t1,i1,[],0⟩,⟨t2,i2,[],0⟩] scope pos) 1 it acc env=(standAt i2.pos >>= λ_=>pyNext it >>= λr=>match r with
  | none=>pure (.done .next) | some v=>letOwnedTupleGo t2 it v >>= λ_=>assign t2 env v >>= λ_=>(eval elt env >>= λx=>call (.builtin "list.append") [acc,x] >>= λ_=>pure ()) >>= λ_=> again (.compLoop (.ListComp elt [⟨t1,i1,[],0⟩,⟨t2,i2,[],0⟩] scope pos) 1 it acc env)):=by rfl
theorem z8S(I:Nat->Shared->Prop) (turn:∀n s,I n s->wpAny (model prog w) A (pyNext it) (λr s₁=>match r with
   | none=>R (.ok .next) s₁ | some v=>wpAny (model prog w) A (letOwnedTupleGo t2 it v) (λ_ s₁'=>wpAny (model prog w) A (assign t2 env v) (λ_ s₂=>wpAny (model prog w) A (eval elt env) (λx s₄=> wpAny (model prog w) A (call (.builtin "list.append") [acc,x]) (λ_ s₅=>∃m,m<n/\I m s₅) (λ_ _=>False) s₄) (λ_ _=>False) s₂) (λ_ _=>False) s₁') (λ_ _=>False) s₁) (λ_ _=>False) s) (n:Nat)(h:I n s):codeAny (model prog w) A (.compLoop (.ListComp elt [⟨t1,i1,[],0⟩,⟨t2,i2,[],0⟩] scope pos) 1 it acc env) R s:=by
 refine codeAny_loop rfl I (λn s hI=>?_) n h;show wpAny _ A ((compTurn (.ListComp elt [⟨t1,i1,[],0⟩,⟨t2,i2,[],0⟩] scope pos) 1 it acc env).onRaise (λx=>do noteFrame x env;theTreesLotGoes x)) _ _ s;refine wpAny_noted ?_;rw[z96];refine _a (_aS (_a (_D (turn n s hI) (λr s₁ h₁=>?_) λ_ _ h'=>h'.elim)));cases r with
 | none=>exact _b h₁ | some v=>
  refine _a (_D h₁ (λ_ s₁' h₁'=>_a (_D h₁' (λ_ s₂ h₂=>?_) λ_ _ h'=>h'.elim)) λ_ _ h'=>h'.elim);exact _a (_a (_D h₂ (λx s₄ h₄=>_a (_D h₄ (λ_ s₅ h₅=>_b (_b ⟨rfl,h₅⟩)) λ_ _ h'=>h'.elim)) λ_ _ h'=>h'.elim))
theorem z83(h0:codeAny (model prog w) A (.compLoop (.ListComp elt [⟨t1,i1,[],0⟩,⟨t2,i2,[],0⟩] scope pos) 1 it acc env) R s) (h:wpAny (model prog w) A (pyIter it) (λit' s'=>codeAny (model prog w) A (.compLoop (.ListComp elt [⟨t1,i1,[],0⟩,⟨t2,i2,[],0⟩] scope pos) 1 it' acc env) R s') (notedBy (model prog w) A env λx s'=>R (.error x) s') s): codeAny (model prog w) A (.compStart (.ListComp elt [⟨t1,i1,[],0⟩,⟨t2,i2,[],0⟩] scope pos) 1 it acc env) R s:=by
 refine codeAny_of_tree ?_;show wpAny _ _ ((compStart (.ListComp elt [⟨t1,i1,[],0⟩,⟨t2,i2,[],0⟩] scope pos) 1 it acc env).onRaise (λx=>do noteFrame x env;standAt theWindowsPlace)) _ _ s;refine wpAny_notedAt ?_;unfold compStart;show wpAny _ _ (ask >>= _) _ _ s;refine _a (_a6 (wpAny_ite ?_));split;·first
   | exact _a (_b (_b (And.intro rfl h0))) | exact _b (And.intro rfl h0)
 ·first
   | exact _a (_cl (_a (_aS (_a (_D h (λit' s' h'=>_b (And.intro rfl h')) λ_ _ x=>x))))) | (refine _a (_cl ?_);show wpAny _ _ (standAt i2.pos >>= _) _ _ s;exact _a (_aS (_a (_D h (λit' s' h'=>_b (And.intro rfl h')) λ_ _ x=>x))))
theorem z9I(hs2:∀x,foldedSetIterable i2 env x=pure x)(I:Nat->Shared->Prop) (turn:∀n s,I n s->wpAny (model prog w) A (pyNext it) (λr s₁=>match r with
   | none=>R (.ok .next) s₁ | some v=>wpAny (model prog w) A (letOwnedTupleGo t1 it v) (λ_ s₁'=>wpAny (model prog w) A (assign t1 env v) (λ_ s₂=>wpAny (model prog w) A (eval i2 env) (λx s₃=>wpAny (model prog w) A (pyIter x) (λjt s₄=> codeAny (model prog w) A (.compStart (.ListComp elt [⟨t1,i1,[],0⟩,⟨t2,i2,[],0⟩] scope pos) 1 jt acc env) (λr s₅=>match r with | .ok _=>∃m,m<n/\I m s₅ | .error _=>False) s₄) (λ_ _=>False) s₃) (λ_ _=>False) s₂) (λ_ _=>False) s₁') (λ_ _=>False) s₁) (λ_ _=>False) s) (n:Nat)(h:I n s):codeAny (model prog w) A (.compLoop (.ListComp elt [⟨t1,i1,[],0⟩,⟨t2,i2,[],0⟩] scope pos) 0 it acc env) R s:=by
 refine codeAny_loop rfl I (λn s hI=>?_) n h;show wpAny _ A ((compTurn (.ListComp elt [⟨t1,i1,[],0⟩,⟨t2,i2,[],0⟩] scope pos) 0 it acc env).onRaise (λx=>do noteFrame x env;theTreesLotGoes x)) _ _ s;refine wpAny_noted ?_;rw[z8Z];refine _a (_aS (_a (_D (turn n s hI) (λr s₁ h₁=>?_) λ_ _ h'=>h'.elim)));cases r with
 | none=>exact _b h₁ | some v=>
  refine _a (_D h₁ (λ_ s₁' h₁'=>_a (_D h₁' (λ_ s₂ h₂=>?_) λ_ _ h'=>h'.elim)) λ_ _ h'=>h'.elim);refine _a (_D h₂ (λx s₃ h₃=>_a (_aS (_a (_cB (hs2 x) ?_)))) λ_ _ h'=>h'.elim);refine _a (_X (_D h₃ (λjt s₄ h₄=>?_) λ_ _ h'=>h'.elim));refine _a (wpAny_runOwn (_bG h₄ λr s₅ h₅=>?_));cases r with
  | ok f=>exact _b ⟨rfl,h₅⟩ | error e=>exact h₅.elim
end
def ze0(wi:TI)(mp:List (Option Nat))(k1 k2:Nat)(wi2:TI)(te:TE):TE:=λO H Q=>wi O H λJ H1=>∃W:Nat->Nat->List V->Hp->Prop,(∃m,W 0 m [] H1)/\∀i m ys H,W i m ys H-> (J.stop i H/\ys.length<=sizeLine/\∀p,H p=none->Q (.ref p) (upd H p (.lst ys)))\/ (J.go i H/\∀x H',J.yld i H x H'->wi2 ((inner mp O).set k1 (some x)) H' λJ2 H3=>∃W2:Nat->Nat->List V->Hp->Prop,(∃m2,W2 0 m2 ys H3)/\∀j m2 ys2 H4,W2 j m2 ys2 H4-> (J2.stop j H4/\∃m',m'<m/\W (i+1) m' ys2 H4)\/ (J2.go j H4/\∀x2 H5,J2.yld j H4 x2 H5->te (((inner mp O).set k1 (some x)).set k2 (some x2)) H5 λy H6=>ys2.length<=sizeLine/\∃m',m'<m2/\W2 (j+1) m' (ys2++[y]) H6))
theorem z3Z{O:St}{i:Nat}{v:V}(h:O[i]? = some none):(O.set i (some v)).length=O.length/\∀(j:Nat) u,O[j]? = some (some u)->(O.set i (some v))[j]? = some (some u):=by
 refine⟨by simp,λj u e=>?_⟩;have:i≠j:=λz=>by subst z;rw[h]at e;cases e
 rw[_L this];exact e
theorem z5M {X:Cx} {tg iter tg2 iter2 elt:Expr} {scope:Scope} {pos:Pos} {wi2:TI} {te:TE} {N':List Str} {mp:List (Option Nat)} {k1 k2:Nat} {pins:List (Addr×Obj)} {O:St} {Q:VK} {J:It} {H2:Hp} {s₂:Shared} {it:Addr} {fp:List Addr} {tn:Nat->Heap->Prop} {E:Value->Shared->Prop} {RR:Value->Addr->Result->Shared->Prop} (hc:X.calm=true) (hm1:mp[k1]? = some none) (hm2:mp[k2]? = some none) (hk:k1≠k2) (hg:∀ex s H,PG (zp X N' scope ex s H) tg (z0j k1)) (hg2:∀ex s H,PG (zp X N' scope ex s H) tg2 (z0j k2)) (hi2:∀ex s H,PI (zp X N' scope ex s H) tg2 iter2 wi2) (he:∀ex s H,PE (zp X N' scope ex s H) elt te) (hs2:∀env x,foldedSetIterable iter2 env x=pure x) (hkd:scope.kind=.function) (hnm:∀y∈scope.names,scope.names.lookup y.1=some y.2) (hfr:∀y∈scope.names,y.2=.free->X.env.kindOf y.1=some .cell\/X.env.kindOf y.1=some .free) (hmp:z1C X.N scope.names N' mp=true) (I2:Inv X pins O H2 s₂) (T:zbX X.prog X.w X.K tg J fp it tn) (st2:tn 0 s₂.heap) (f2:∀b∈fp,z2a X pins H2 b) (W:Nat->Nat->List V->Hp->Prop) (w0:∃m,W 0 m [] H2) (turn:∀i m ys H,W i m ys H-> (J.stop i H/\ys.length<=sizeLine/\∀p,H p=none->Q (.ref p) (upd H p (.lst ys)))\/ (J.go i H/\∀x H',J.yld i H x H'->wi2 ((inner mp O).set k1 (some x)) H' λJ2 H3=>∃W2:Nat->Nat->List V->Hp->Prop,(∃m2,W2 0 m2 ys H3)/\∀j m2 ys2 H4,W2 j m2 ys2 H4-> (J2.stop j H4/\∃m',m'<m/\W (i+1) m' ys2 H4)\/ (J2.go j H4/\∀x2 H5,J2.yld j H4 x2 H5->te (((inner mp O).set k1 (some x)).set k2 (some x2)) H5 λy H6=>ys2.length<=sizeLine/\∃m',m'<m2/\W2 (j+1) m' (ys2++[y]) H6))) (hRR:∀acc C s',jd X pins O C Q acc s'->RR acc C (.ok .next) s'): wpAny (model X.prog X.w) X.A (newList []) (λacc s₃=>wpAny (model X.prog X.w) X.A (newFunctionEnv scope X.env.globals (z2Z X.env scope.names []) [] X.env.qual none .none (some X.env)) (λcenv s₄=> codeAny (model X.prog X.w) X.A (.compStart (.ListComp elt [⟨tg,iter,[],0⟩,⟨tg2,iter2,[],0⟩] scope pos) 0 (.ref it) acc {cenv with scope:=relabel scope X.env}) (RR acc cenv.locals) s₄) E s₃) E s₂:=by
 refine _G ?_;have hf2:H2 s₂.heap.objs.size=none:=I2.hok.fresh (_h _);have fA:z2a X pins H2 s₂.heap.objs.size:=I2.fpOk (_h _) hf2;generalize hacc:s₂.heap.objs.size=acc at hf2 fA ⊢;have I3:Inv X pins O H2 {s₂ with heap:=s₂.heap.push {cls:=.type "list",data:=.seq ([]:List Value).toArray}}:=I2.kept (t':=s₂.toks) λb o e=>_c _ e;have ha3:(s₂.heap.push {cls:=.type "list",data:=.seq ([]:List Value).toArray}).get? acc=some (LCg.lst []):=by rw[<- hacc];exact _g _ rfl
 have sz3:(s₂.heap.push {cls:=.type "list",data:=.seq ([]:List Value).toArray}).objs.size=acc+1:=by rw[_as,hacc]
 have kp3:∀b o,s₂.heap.get? b=some o->(s₂.heap.push {cls:=.type "list",data:=.seq ([]:List Value).toArray}).get? b=some o:=λb o e=>_c _ e;show wpAny _ _ _ _ _ {s₂ with heap:=s₂.heap.push {cls:=.type "list",data:=.seq ([]:List Value).toArray}};generalize hs3:({s₂ with heap:=s₂.heap.push {cls:=.type "list",data:=.seq ([]:List Value).toArray}}:Shared)=s₃ at I3 ⊢;have ha3':s₃.heap.get? acc=some (LCg.lst []):=by rw[<- hs3];exact ha3
 have sz3':s₃.heap.objs.size=acc+1:=by rw[<- hs3];exact sz3
 have kp3':∀b o,s₂.heap.get? b=some o->s₃.heap.get? b=some o:=by rw[<- hs3];exact kp3
 have flt:∀b∈fp,b<acc:=λb hb=>by
  obtain⟨o,e,_⟩:=T.obj 0 _ st2 b hb;rw[<- hacc];exact _l e
 have fne:∀b∈fp,b≠acc:=λb hb=>_t (flt b hb);have tn3:tn 0 s₃.heap:=T.keep 0 _ _ st2 λb hb o e=>kp3' b o e;refine z18 ?_;rw[xr];have hex:∀b∈acc::fp,b<s₃.heap.objs.size/\H2 b=none/\b≠X.env.locals/\b∉X.fs/\(b∈X.ex\/X.s₀.heap.objs.size<=b)/\(∀x c,X.env.cells.lookup x=some c->c≠b):=λb hb=>by
  rcases _p.mp hb with z | hb
  ·subst z;exact⟨by rw[sz3'];exact _aR _,hf2,fA.2.1,fA.2.2.1,fA.2.2.2.1,fA.2.2.2.2.1⟩
  ·have q:=f2 b hb;exact⟨by rw[sz3'];exact _aa (flt b hb),q.1,q.2.1,q.2.2.1,q.2.2.2.1,q.2.2.2.2.1⟩
 have I4:=z26 (N':=N') (mp:=mp) (ex:=acc::fp) (s1:={s₃ with heap:=pushCells (s₃.heap.push {cls:=.type "dict",data:=.dict #[]}) scope.names}) I3 hkd hnm hfr hmp hex rfl rfl rfl;have kp4:∀b o,s₃.heap.get? b=some o->(pushCells (s₃.heap.push {cls:=.type "dict",data:=.dict #[]}) scope.names).get? b=some o:=λb o e=>_cI _ _ b o (_c _ e);generalize hs4:({s₃ with heap:=pushCells (s₃.heap.push {cls:=.type "dict",data:=.dict #[]}) scope.names}:Shared)=s₄ at I4 ⊢;have ha4:s₄.heap.get? acc=some (LCg.lst []):=by rw[<- hs4];exact kp4 _ _ ha3'
 have tn4:tn 0 s₄.heap:=T.keep 0 _ _ tn3 λb hb o e=>by rw[<- hs4];exact kp4 b o e
 have Cne:acc≠s₃.heap.objs.size:=by rw[sz3'];exact _t (_aR _)
 have celln:∀b∈acc::fp,∀x c,(z6m X scope s₃.heap.objs.size).cells.lookup x=some c->c≠b:=λb hb=>(I4.ok.exf b hb).2;have stat:∀{H':Hp} {o:Obj},(∀b∈fp,H' b=none)->∀b∈fp,z2a (zp X N' scope (acc::fp) s₃ H2) [(acc,o)] H' b:=λ{H' o} hn b hb=> ⟨hn b hb,_t (by show b<s₃.heap.objs.size;rw[sz3'];exact _aa (flt b hb)),λhf=>I4.ok.exfs b (_C _ hb) hf,.inl (_C _ hb),celln b (_C _ hb),λp hp=>by
   have e:p=(acc,o):=by simpa[zp] using hp
   rw[e];exact _a4 (fne b hb)⟩;have accP:∀(its:List Value) (v:Option Value),(LCg.lst its).data≠.cell v:=λits v z=>by
  have z':Data.seq _ _=Data.cell v:=z;cases z'
 have pinA:∀{P:List (Addr×Obj)} {O':St} {H':Hp} {s':Shared} {its:List Value},Inv (zp X N' scope (acc::fp) s₃ H2) P O' H' s'->H' acc=none->s'.heap.get? acc=some (LCg.lst its)->Inv (zp X N' scope (acc::fp) s₃ H2) ([(acc,LCg.lst its)]++P) O' H' s':=λ{P O' H' s' its} J' n' e'=> J'.pins_of λp hp=>by
   rcases _M.mp hp with hp | hp
   ·have e:p=(acc,LCg.lst its):=by simpa using hp
    subst e;exact⟨e',n',Cne,λhf=>I4.ok.exfs acc _K hf,accP its⟩
   ·exact J'.pin p (_B _ hp)
 obtain⟨m0,w0⟩:=w0;have loop:codeAny (model X.prog X.w) X.A (.compLoop (.ListComp elt [⟨tg,iter,[],0⟩,⟨tg2,iter2,[],0⟩] scope pos) 0 (.ref it) (.ref acc) (z6m X scope s₃.heap.objs.size)) (RR (.ref acc) s₃.heap.objs.size) s₄:=by
  refine z9I (hs2 _) (λn s'=>∃i ys its H',Inv (zp X N' scope (acc::fp) s₃ H2) [] (inner mp O) H' s'/\tn i s'.heap/\(∀b∈fp,H' b=none)/\H' acc=none/\s'.heap.get? acc=some (LCg.lst its)/\yd ys its/\W i n ys H') ?_ m0 ⟨0,[],[],H2,I4,tn4,λb hb=>(f2 b hb).1,hf2,ha4,.nil,w0⟩;rintro n s5 ⟨i,ys,its,H5,I5,tn5,n5,na5,ea5,rv5,w5⟩;have I5':Inv (zp X N' scope (acc::fp) s₃ H2) [(acc,LCg.lst its)] (inner mp O) H5 s5:=pinA I5 na5 ea5;rcases turn i n ys H5 w5 with⟨stop,hz,q⟩ | ⟨go,step⟩
  ·refine _D (T.done (zp X N' scope (acc::fp) s₃ H2) rfl rfl rfl hc i _ s5 _ H5 (λ_ _=>False) I5' (stat n5) tn5 stop) (λr s6 ⟨hr,I6⟩=>?_) λ_ _ z=>z;subst hr;have ea6:=(I6.pin (acc,LCg.lst its) (by simp)).1;have un:Un (frs X.stack) (acc::fp) H2 H5 s₃.heap s6.heap:=I6.base;have I7:Inv X pins O H5 s6:=I3.call' (s':=s6) (I6.os) un I6.hok I6.bare λb hb=>by
    rcases _p.mp hb with z | hb;·subst z;exact⟨fA.2.2.2.1,fA.2.1,fA.2.2.2.2.1,fA.2.2.2.2.2⟩
    ·exact⟨(f2 b hb).2.2.2.1,(f2 b hb).2.1,(f2 b hb).2.2.2.2.1,(f2 b hb).2.2.2.2.2⟩
   have C7:z2a X pins H5 s₃.heap.objs.size:=I3.fpOk (_h _) I6.free;refine hRR _ _ s6 ⟨.ref acc,upd H5 acc (.lst ys),I7.track ⟨na5,fA.2⟩ ?_,rfl,q acc na5,?_,?_,C7.2⟩;·exact⟨hz,its,_,rv5,ea6⟩
   ·obtain⟨m,hm,_⟩:=I6.loc;exact⟨m,hm⟩
   ·rw[zn (_a4 Cne)];exact I6.free
  ·refine _D (T.item (zp X N' scope (acc::fp) s₃ H2) rfl rfl rfl hc i _ s5 _ H5 (λ_ _=>False) I5' (stat n5) tn5 go) (λr s6 ⟨u,hr,h6⟩=>?_) λ_ _ z=>z;subst hr;refine _D h6 (λ_ s7 ⟨x,H7,I7,r7,y7,tn7,n7⟩=>?_) λ_ _ z=>z;have I7':=I7.pinned (stat n7) (T.obj _ _ tn7);generalize hP:z21 fp s7.heap=P7 at I7';have inP:∀b∈fp,∀o,s7.heap.get? b=some o->(b,o)∈P7:=λb hb o e=>by rw[<- hP];exact vn hb e
   have back:∀{O':St} {H':Hp} {s':Shared} {its':List Value},Inv (zp X N' scope (acc::fp) s₃ H2) ([(acc,LCg.lst its')]++P7) O' H' s'->(∀b∈fp,H' b=none)/\H' acc=none/\s'.heap.get? acc=some (LCg.lst its')/\tn (i+1) s'.heap:=λ{O' H' s' its'} J'=>by
    have z:=J'.pin (acc,LCg.lst its') (by simp[zp]);have zz:∀b∈fp,∀o,s7.heap.get? b=some o->s'.heap.get? b=some o/\H' b=none:=λb hb o e=>by
     have y:=J'.pin (b,o) (_B _ (_B _ (inP b hb o e)));exact⟨y.1,y.2.1⟩
    refine⟨λb hb=>?_,z.2.1,z.1,T.keep _ _ _ tn7 λb hb o e=>(zz b hb o e).1⟩;obtain⟨o,e,_⟩:=T.obj _ _ tn7 b hb;exact (zz b hb o e).2
   have ow1:(inner mp O)[k1]? = some none:=by simp[L2.inner,hm1]
   have kp1:=z3Z (v:=x) ow1;have ow2:((inner mp O).set k1 (some x))[k2]? = some none:=by rw[_L hk];simp[L2.inner,hm2]
   refine _D (hg _ _ _ _ s7 (inner mp O) H7 x u (λO8 H8=>O8=(inner mp O).set k1 (some x)/\H8=H7) I7' r7 ⟨rfl,rfl⟩) (λ_ s8 ⟨O8,H8,I8,e8,e8'⟩=>?_) λ_ _ z=>z;subst e8 e8';refine _D (hi2 _ _ _ _ s8 _ H8 _ I8 (step x H8 y7)) (λxv s9 h9=>?_) λ_ _ z=>z;refine _D h9 (λjt s10 h10=>?_) λ_ _ z=>z;obtain⟨it2,fp2,tn2,J2,H10,e10,I10,T2,st10,f10,W2,⟨m2,v0⟩,turn2⟩:=h10;subst e10;obtain⟨_,na10,ea10,_⟩:=back I10;have stat2:∀{H':Hp} {its':List Value},(∀b∈fp2,H' b=none)->∀b∈fp2,z2a (zp X N' scope (acc::fp) s₃ H2) ([(acc,LCg.lst its')]++P7) H' b:=λ{H' its'} hn b hb=>by
    obtain⟨q1,q2,q3,q4,q5,q6⟩:=f10 b hb;refine⟨hn b hb,q2,q3,q4,q5,λp hp=>?_⟩;rcases _M.mp hp with hp | hp;·exact q6 p (_aK _ hp)
    ·rcases _M.mp hp with hp | hp
     ·have e:p=(acc,LCg.lst its'):=by simpa using hp
      rw[e];exact q6 (acc,LCg.lst its) (_B _ (_aK _ (by simp)))
     ·exact q6 p (_B _ (_B _ hp))
   have unA:∀{O':St} {H':Hp} {s':Shared} {its':List Value},Inv (zp X N' scope (acc::fp) s₃ H2) ([(acc,LCg.lst its')]++P7) O' H' s'->Inv (zp X N' scope (acc::fp) s₃ H2) P7 O' H' s':=λJ'=>J'.pins_of λp hp=>J'.pin p (_B _ (_B _ hp));have loop2:codeAny (model X.prog X.w) X.A (.compLoop (.ListComp elt [⟨tg,iter,[],0⟩,⟨tg2,iter2,[],0⟩] scope pos) 1 (.ref it2) (.ref acc) (z6m X scope s₃.heap.objs.size)) (λr s'=>match r with | .ok _=>∃m,m<n/\∃i ys its H',Inv (zp X N' scope (acc::fp) s₃ H2) [] (inner mp O) H' s'/\tn i s'.heap/\(∀b∈fp,H' b=none)/\H' acc=none/\s'.heap.get? acc=some (LCg.lst its)/\yd ys its/\W i m ys H' | .error _=>False) s10:=by
    refine z8S (λn' s'=>∃j ys2 its2 H',Inv (zp X N' scope (acc::fp) s₃ H2) P7 ((inner mp O).set k1 (some x)) H' s'/\tn2 j s'.heap/\(∀b∈fp2,H' b=none)/\H' acc=none/\s'.heap.get? acc=some (LCg.lst its2)/\yd ys2 its2/\W2 j n' ys2 H') ?_ m2 ⟨0,ys,its,H10,unA I10,st10,λb hb=>(f10 b hb).1,na10,ea10,rv5,v0⟩;rintro n' s11 ⟨j,ys2,its2,H11,I11,tn11,n11,na11,ea11,rv11,v11⟩;have I11':=pinA I11 na11 ea11;rcases turn2 j n' ys2 H11 v11 with⟨stop2,m',lt,w12⟩ | ⟨go2,step2⟩
    ·refine _D (T2.done (zp X N' scope (acc::fp) s₃ H2) rfl rfl rfl hc j _ s11 _ H11 (λ_ _=>False) I11' (stat2 n11) tn11 stop2) (λr s12 ⟨hr,I12⟩=>?_) λ_ _ z=>z;subst hr;obtain⟨z1,z2,z3,z4⟩:=back I12;exact⟨m',lt,i+1,ys2,its2,H11,(I12.pins_of (pins':=[]) (λp hp=>absurd hp (by simp))).weak kp1.1.symm kp1.2,z4,z1,z2,z3,rv11,w12⟩
    ·refine _D (T2.item (zp X N' scope (acc::fp) s₃ H2) rfl rfl rfl hc j _ s11 _ H11 (λ_ _=>False) I11' (stat2 n11) tn11 go2) (λr s12 ⟨u2,hr,h12⟩=>?_) λ_ _ z=>z;subst hr;refine _D h12 (λ_ s13 ⟨x2,H13,I13,r13,y13,tn13,n13⟩=>?_) λ_ _ z=>z;have I13':=I13.pinned (stat2 n13) (T2.obj _ _ tn13);have kp2:=z3Z (v:=x2) ow2;refine _D (hg2 _ _ _ _ s13 _ H13 x2 u2 (λO14 H14=>O14=((inner mp O).set k1 (some x)).set k2 (some x2)/\H14=H13) I13' r13 ⟨rfl,rfl⟩) (λ_ s14 ⟨O14,H14,I14,e14,e14'⟩=>?_) λ_ _ z=>z;subst e14 e14';refine _D (he _ _ _ _ s14 _ H14 _ I14 (step2 x2 H14 y13)) (λyv s15 ⟨y,H15,I15,r15,hz,m',lt,v15⟩=>?_) λ_ _ z=>z;have I15u:Inv (zp X N' scope (acc::fp) s₃ H2) ([(acc,LCg.lst its2)]++P7) _ H15 s15:=I15.unpinned;obtain⟨z1,z2,z3,z4⟩:=back I15u;have zz:∀b∈fp2,∀o,s13.heap.get? b=some o->s15.heap.get? b=some o/\H15 b=none:=λb hb o e=>by
      have y:=I15.pin (b,o) (_B _ (_B _ (vn hb e)));exact⟨y.1,y.2.1⟩
     have fne2:∀b∈fp2,b≠acc:=λb hb=>by
      have:=(f10 b hb).2.2.2.2.2 (acc,LCg.lst its) (_B _ (_aK _ (by simp)));exact _a4 this
     have zl:its2.toArray.size<=sizeLine:=by rw[_q,<- rv11.length];exact hz
     refine append_at (hsz:=zl) z3 λh16 sb ea16=>?_;have I15w:=(unA I15u).weak kp2.1.symm kp2.2;have aP:∀p∈(zp X N' scope (acc::fp) s₃ H2).pn++P7,p.1≠acc:=λp hp=>by
      have hp':p∈P7:=by simpa[zp] using hp
      rw[<- hP]at hp';obtain⟨b,hb,e⟩:=_bs.mp hp';obtain⟨o,_,e2⟩:=_x.mp e;rw[<- e2];exact fne b hb
     have I16:Inv (zp X N' scope (acc::fp) s₃ H2) P7 ((inner mp O).set k1 (some x)) H15 {s15 with heap:=h16}:=I15w.turned (t':=s15.toks) (λb o hb e=>(sb.2 b hb).trans e) z2 Cne (.inl _K) (celln acc _K) aP;refine⟨m',lt,j+1,ys2++[y],its2++[yv],H15,I16,T2.keep _ _ _ tn13 (λb hb o e=>(sb.2 b (fne2 b hb)).trans (zz b hb o e).1),λb hb=>?_,z2,ea16.trans (_aq some (LCg.lst_snoc its2 yv)),rv11.append (.cons r15 .nil),v15⟩;obtain⟨o,e,_⟩:=T2.obj _ _ tn13 b hb;exact (zz b hb o e).2
   exact z83 loop2 (T2.self _ 0 _ _ _ st10 loop2)
 exact codeAny_compStart_list loop (T.self _ 0 _ _ _ tn4 loop)
section
variable {X:Cx}{tg iter tg2 iter2 elt:Expr}{scope:Scope}{pos spos py:Pos}{wi wi2:TI}{te:TE}{k1 k2:Nat}
theorem z5w {i:Nat} {y:Str} (N':List Str) (mp:List (Option Nat)) (hN:X.N.Nodup) (hy:X.N[i]? = some y) (hyl:Loc X.env.scope y) (hc:X.calm=true) (hm1:mp[k1]? = some none) (hm2:mp[k2]? = some none) (hk:k1≠k2) (hi:PI X tg iter wi) (hg:∀ex s H,PG (zp X N' scope ex s H) tg (z0j k1)) (hg2:∀ex s H,PG (zp X N' scope ex s H) tg2 (z0j k2)) (hi2:∀ex s H,PI (zp X N' scope ex s H) tg2 iter2 wi2) (he:∀ex s H,PE (zp X N' scope ex s H) elt te) (hs2:∀env x,foldedSetIterable iter2 env x=pure x) (hkd:scope.kind=.function) (hnm:∀y∈scope.names,scope.names.lookup y.1=some y.2) (hfr:∀y∈scope.names,y.2=.free->X.env.kindOf y.1=some .cell\/X.env.kindOf y.1=some .free) (hmp:z1C X.N scope.names N' mp=true) (hs:∀x,foldedSetIterable iter X.env x=pure x:=by intro _;rfl) (hsw:swapsWith (.ListComp elt [⟨tg,iter,[],0⟩,⟨tg2,iter2,[],0⟩] scope pos) (some (.Name y py)) spos.line X.env=pure true:=by rfl) (hf:X.fn y=true\/X.env.scope.names.lookup y=some .local:=by first | exact .inl rfl | exact .inr rfl | assumption): PS X (.Assign [.Name y py] (.ListComp elt [⟨tg,iter,[],0⟩,⟨tg2,iter2,[],0⟩] scope pos) spos) (λD O H=>ze0 wi mp k1 k2 wi2 te O H (z8t λv H'=>D.nx (O.set i (some v)) H')):=by
 intro pins s O H D I h;rw[exec_Assign_Name_used _ _ _ _ hsw];refine _a (_aS (_a ?_));show wpAny _ X.A (do let _ <- comprehension (.ListComp elt [⟨tg,iter,[],0⟩,⟨tg2,iter2,[],0⟩] scope pos) scope X.env _ (newList []) false (eval iter X.env) (some (assign (.Name y py) X.env))) _ _ s;refine _a (_D (_bM (use:=some (assign (.Name y py) X.env)) (Q:=λ_ s'=>SP X pins D .next s') rfl hs (vO λy hy hf=>I.ok.has _ (hfr y hy hf)) hkd (λy hy hl=>by rw[hnm y hy,hl]) (thn (hi pins s O H _ I h) λxv s₁ h₁=>thn h₁ λitv s₂ h₂=>?_)) (λ_ s' hq=>_b (_b hq)) λ_ _ e=>e);obtain⟨it,fp,tn,J,H2,e,I2,T,st2,f2,W,w0,turn⟩:=h₂;subst e;refine z5M (N':=N') (mp:=mp) (O:=O) (pins:=pins) (Q:=z8t λv H'=>D.nx (O.set i (some v)) H') (RR:=λacc C=>compPost (model X.prog X.w) X.A X.xe (some (assign (.Name y py) X.env)) (λ_ s'=>SP X pins D .next s') acc C) hc hm1 hm2 hk hg hg2 hi2 he hs2 hkd hnm hfr hmp I2 T st2 f2 W w0 turn ?_;intro acc C s' hd;obtain⟨v,Hf,I3,r,q,⟨m,hm⟩,f⟩:=hd.freeze;refine _db (z0V I3 hN hy hyl r (λs'' I4 ⟨a,sb,ha⟩=>?_) hf);have hC:C≠a:=by
  rcases ha with z | z;·rw[z];exact f.2.1
  ·exact _a4 (f.2.2.2.2.1 y a z)
 exact⟨m,hm.sameBut sb hC,λh' sb'=>⟨_,Hf,qT I4 f sb',q⟩⟩
end
end L2
namespace Dd
open L2
open Classical in
def z2F(g:List (Nat×List D))(all:List D)(body:D->List D->Sto->R (List D)):List D->List D->Sto->R (List D)
 | [],acc,s=>if okG g all s then .ok acc s else .no | x::xs,acc,s=>if okG g all s then (body x acc s).bind λacc' s1=>z2F g all body xs acc' s1 else .no
def z75(fi:FI)(mp:List (Option Nat))(k1 k2:Nat)(fi2:FI)(fe:FE):FA:=fun ρ s=>(fi ρ s).bind λit s1=>z2F it.2 it.1 (λd acc s=>(fi2 ((zW mp ρ).set k1 (some d)) s).bind λit2 s2=>xA it2.2 it2.1 (λd2 s=>(fe (((zW mp ρ).set k1 (some d)).set k2 (some d2)) s).bind λd s3=>.ok (some d) s3) it2.1 acc s2) it.1 [] s1
section
variable {X:Cx}{E:XK}{tg iter tg2 iter2 elt:Expr}{pos spos py:Pos}{mp:List (Option Nat)}{k1 k2:Nat}{fi fi2:FI}{fe:FE}{scope:Scope}
theorem zb3{O:L2.St}{H:Hp}{Q:VK}{Y:List Addr}{ρ:Ev}{s:Sto}{β:Type}{kR:List D->Sto->R β}{β2:Type}{Dn:Hp->List Addr->β->β2->Prop}{Q2:β2->Hp->Prop}(r:Rep (gm X) H Y s)(en:wG (gm X) H Y ρ O) (h:okR (gm X) E H Y Dn ((z75 fi mp k1 k2 fi2 fe ρ s).bind kR) Q2) (fin:∀H1 Y1 s1 xs vs,Rep (gm X) H1 Y1 s1->wG (gm X) H1 Y1 ρ O->zm (gm X) H1 Y1 xs vs->okR (gm X) E H1 Y1 Dn (kR xs s1) Q2->xs.length<=cap->∀p,H1 p=none->Q (.ref p) (upd H1 p (.lst vs))): ze0 (tI (gm X) E fi) mp k1 k2 (tI (gm X) E fi2) (tE (gm X) E fe) O H Q:=by
 unfold z75 at h;have assoc:∀{α γ δ:Type}(x:R α)(f:α->Sto->R γ)(k:γ->Sto->R δ),(x.bind f).bind k=x.bind λa s=>(f a s).bind k:=λx f k=>by cases x<;>rfl
 rw[assoc]at h;refine⟨Y,ρ,s,r,en,(okR.bind (Dn:=zbm (gm X)) h).imp λJ H1 ⟨Y1,s1,it,stp,ok,h1⟩=>?_⟩;obtain⟨items,gd⟩:=it;simp only at h1;generalize hb:(λ(d:D)(acc:List D)(s:Sto)=>(fi2 ((zW mp ρ).set k1 (some d)) s).bind λit2 s2=>xA it2.2 it2.1 (λd2 s=>(fe (((zW mp ρ).set k1 (some d)).set k2 (some d2)) s).bind λd s3=>R.ok (some d) s3) it2.1 acc s2)=body at h1;refine⟨λi m ys H=>∃Y s acc,yX (gm X) H1 Y1 H Y s/\zm (gm X) H Y acc ys/\acc.length<=cap/\m=items.length-i/\i<=items.length/\okR (gm X) E H Y Dn ((z2F gd items body (items.drop i) acc s).bind kR) Q2, ⟨items.length,Y1,s1,[],.refl stp.rep,zm.nil,_Y _,by simp,_Y _,by simpa using h1⟩,?_⟩;rintro i m ys H2 ⟨Y2,s2,acc,stp2,dn2,hcap,rfl,hil,h2⟩;have en2:wG (gm X) H2 Y2 ρ O:=(en.mono stp).mono stp2;by_cases hlt:i<items.length
 ·right;rw[_ax hlt,z2F]at h2;split at h2
  ·rename_i hG;obtain⟨go,yl⟩:=((ok H2 Y2 s2 stp2 hG i).1 items[i] (_e hlt));refine⟨go,λx H' y=>?_⟩;obtain⟨Y3,stp3,dn3⟩:=yl x H' y;have h3:=okR.rebase h2 stp3;rw[<- hb]at h3;simp only at h3;rw[hb,assoc,assoc]at h3;have en3:wG (gm X) H' Y3 ((zW mp ρ).set k1 (some items[i])) ((inner mp O).set k1 (some x)):=((en2.mono stp3).inner).set dn3 k1;refine⟨Y3,(zW mp ρ).set k1 (some items[i]),s2,stp3.rep,en3,(okR.bind (Dn:=zbm (gm X)) h3).imp λJ2 H4 ⟨Y4,s4,it2,stp4,ok2,h4⟩=>?_⟩;obtain⟨items2,gd2⟩:=it2;simp only at h4;generalize hb2:(λ(d2:D)(s:Sto)=>(fe (((zW mp ρ).set k1 (some items[i])).set k2 (some d2)) s).bind λd s3=>R.ok (some d) s3)=body2 at h4;have all4:yX (gm X) H1 Y1 H4 Y4 s4:=(stp2.trans stp3).trans stp4;refine⟨λj m2 ys2 H=>∃Y s acc2,yX (gm X) H4 Y4 H Y s/\zm (gm X) H Y acc2 ys2/\acc2.length<=cap/\m2=items2.length-j/\j<=items2.length/\okR (gm X) E H Y Dn ((xA gd2 items2 body2 (items2.drop j) acc2 s).bind λacc' s1=>(z2F gd items body (items.drop (i+1)) acc' s1).bind kR) Q2, ⟨items2.length,Y4,s4,acc,.refl stp4.rep,(dn2.mono stp3).mono stp4,hcap,by simp,_Y _,by simpa using h4⟩,?_⟩;rintro j m2 ys2 H5 ⟨Y5,s5,acc2,stp5,dn5,hcap2,rfl,hjl,h5⟩;have en5:wG (gm X) H5 Y5 ((zW mp ρ).set k1 (some items[i])) ((inner mp O).set k1 (some x)):=(en3.mono stp4).mono stp5;by_cases hlt2:j<items2.length
   ·right;rw[_ax hlt2,xA]at h5;split at h5
    ·rename_i hG2;obtain⟨go2,yl2⟩:=((ok2 H5 Y5 s5 stp5 hG2 j).1 items2[j] (_e hlt2));refine⟨go2,λx2 H6 y2=>?_⟩;obtain⟨Y6,stp6,dn6⟩:=yl2 x2 H6 y2;have h6:=okR.rebase h5 stp6;rw[<- hb2]at h6;simp only at h6;rw[hb2,assoc,assoc]at h6;have en6:=(en5.mono stp6).set dn6 k2;refine⟨Y6,((zW mp ρ).set k1 (some items[i])).set k2 (some items2[j]),s5,stp6.rep,en6,(okR.bind (Dn:=Den (gm X)) h6).imp λyv H7 ⟨Y7,s7,d7,stp7,dn7,h7⟩=>?_⟩;simp only[Rb]at h7;split at h7
     ·rename_i hcc;have all7:=(stp5.trans stp6).trans stp7;refine⟨by rw[dn5.length];exact qa hcap2,items2.length-(j+1),by omega,Y7,s7,acc2++[d7],all7,((dn5.mono stp6).mono stp7).append (zm.one dn7),by simp;omega,rfl,hlt2,h7⟩
     ·exact h7.elim
    ·exact h5.elim
   ·left;have e:j=items2.length:=by omega
    subst e;rw[_co,xA]at h5;split at h5
    ·rename_i hG2;simp only[Rb]at h5;exact⟨(ok2 H5 Y5 s5 stp5 hG2 _).2 (_h _),items.length-(i+1),by omega,Y5,s5,acc2,all4.trans stp5,dn5,hcap2,rfl,hlt,h5⟩
    ·exact h5.elim
  ·exact h2.elim
 ·left;have e:i=items.length:=by omega
  subst e;rw[_co,z2F]at h2;split at h2
  ·rename_i hG;simp only[Rb]at h2;exact⟨(ok H2 Y2 s2 stp2 hG _).2 (_h _),by rw[dn2.length];exact qa hcap,fin H2 Y2 s2 acc ys stp2.rep en2 dn2 h2 hcap⟩
  ·exact h2.elim
def z54(fi:FI)(mp:List (Option Nat))(k1 k2:Nat)(fi2:FI)(fe:FE):FE:=fun ρ s=>(z75 fi mp k1 k2 fi2 fe ρ s).bind λxs s1=>.ok (.lst xs) s1
theorem zfG (i:Nat) {y:Str} (N':List Str) (mp:List (Option Nat)) (k1 k2:Nat) (hN:X.N.Nodup) (hc:X.calm=true) (hi:RI X E tg iter fi) (hg:∀ex s H,PG (zp X N' scope ex s H) tg (z0j k1)) (hg2:∀ex s H,PG (zp X N' scope ex s H) tg2 (z0j k2)) (hi2:∀ex s H,RI (zp X N' scope ex s H) E tg2 iter2 fi2) (he:∀ex s H,RE (zp X N' scope ex s H) E elt fe) (hm1:mp[k1]? = some none:=by rfl) (hm2:mp[k2]? = some none:=by rfl) (hk:k1≠k2:=by decide) (hs2:∀env x,foldedSetIterable iter2 env x=pure x:=by intro _ _;rfl) (hkd:scope.kind=.function:=by rfl) (hnm:zbA scope.names=true:=by rfl) (hfr:zcK X.env.kindOf scope.names=true:=by rfl) (hmp:z1C X.N scope.names N' mp=true:=by rfl) (hy:X.N[i]? = some y:=by rfl) (hyl:Loc X.env.scope y:=by first | exact Or.inl rfl | exact Or.inr rfl) (hs:∀x,foldedSetIterable iter X.env x=pure x:=by intro _;rfl) (hsw:swapsWith (.ListComp elt [⟨tg,iter,[],0⟩,⟨tg2,iter2,[],0⟩] scope pos) (some (.Name y py)) spos.line X.env=pure true:=by rfl) (hf:X.fn y=true\/X.env.scope.names.lookup y=some .local:=by first | exact .inl rfl | exact .inr rfl | assumption): RS X E (.Assign [.Name y py] (.ListComp elt [⟨tg,iter,[],0⟩,⟨tg2,iter2,[],0⟩] scope pos) spos) (vh i (z54 fi mp k1 k2 fi2 fe)):= wq (z5w (te:=tE (gm X) E fe) (wi2:=tI (gm X) E fi2) N' mp hN hy hyl hc hm1 hm2 hk hi hg hg2 (λex s H=>hi2 ex s H) (λex s H=>he ex s H) hs2 hkd (z3b hnm) (z2y hfr) hmp hs hsw hf) λD O H ⟨Y,ρ,s,r,en,h⟩=>by
  have assoc:∀{α γ δ:Type} (x:R α) (f:α->Sto->R γ) (k:γ->Sto->R δ),(x.bind f).bind k=x.bind λa s=>(f a s).bind k:=λx f k=>by cases x<;>rfl
  unfold vh z54 at h;rw[assoc]at h;refine zb3 r en h λH1 Y1 s1 xs vs r1 en1 dn h1 hcap p hp=>?_;refine vc (E:=E) (mg:=gm X) (xs:=xs) r1 (λv H2 Y2 stp dn2=>?_) dn p hp;exact h1 (.nx (O.set i (some v))) H2 Y2 stp ((en1.mono stp).set dn2 i)
end
end Dd
namespace L2
def n3(a b c:Int):Nat:=if a<b then ((b-a-1) / c+1).toNat else 0
end L2
namespace Dd
open L2
open PySem.W
theorem vG{α β:Type}{n:Nat}{lt:Nat->Nat->Bool}(f:α->KasT β):∀t:KasT α,kev n lt (t.bind f)=(kev n lt t).bind λa=>kev n lt (f a)
 | .ret a=>rfl | .ask i j k=>by
  show (if i<n/\j<n then kev n lt ((k (lt i j)).bind f) else none)=(if i<n/\j<n then kev n lt (k (lt i j)) else none).bind _;split;·exact vG f _
  ·rfl
section
variable {N:Nat}{lt:Nat->Nat->Bool}(tot:∀i j,i<N->j<N->i≠j->lt j i=!lt i j)(tr:∀i j k,lt i j=true->lt j k=true->lt i k=true)
abbrev at0(p:Array Nat)(i:Nat):Nat:=p.getD i 0
structure PmN(N:Nat)(p:Array Nat):Prop where pm:p.toList.Perm (List.range N)
theorem PmN.size{p:Array Nat}(h:PmN N p):p.size=N:=by have:=h.pm.length_eq;simpa using this
theorem PmN.bd{p:Array Nat}(h:PmN N p){i:Nat}(hi:i<N):at0 p i<N:=by
 have hs:=h.size;have:at0 p i∈p.toList:=by
  rw[at0,Array.getD,dif_pos (by omega)];exact Array.getElem_mem_toList _
 exact _Q.mp (h.pm.mem_iff.mp this)
theorem PmN.ne {p:Array Nat} (h:PmN N p) {i j:Nat} (hi:i<N) (hj:j<N) (hij:i≠j):at0 p i≠at0 p j:=λz=>by
 have hs:=h.size;have nd:p.toList.Nodup:=h.pm.nodup_iff.mpr _ct;rw[at0,at0,Array.getD,Array.getD,dif_pos (by omega),dif_pos (by omega)]at z;have:=(_aL (i:=i) (j:=j) (h₀:=by simpa using (by omega:i<p.size)) (h₁:=by simpa using (by omega:j<p.size)) nd).mp (by simpa using z);exact hij this
theorem PmN.of{p q:Array Nat}(h:PmN N p)(e:q.Perm p):PmN N q:=⟨(Array.perm_iff_toList_perm.mp e).trans h.pm⟩
def Asc(lt:Nat->Nat->Bool)(p:Array Nat)(k:Nat):Prop:=∀i j,i<j->j<k->lt (at0 p i) (at0 p j)=true
def Des(lt:Nat->Nat->Bool)(p:Array Nat)(k:Nat):Prop:=∀i j,i<j->j<k->lt (at0 p j) (at0 p i)=true
include tr
theorem Asc.more{p:Array Nat}{k:Nat}(h:Asc lt p k)(h1:1<=k)(e:lt (at0 p (k-1)) (at0 p k)=true):Asc lt p (k+1):=λi j hij hj=>by
 by_cases q:j=k
 ·subst q;by_cases q2:i=j-1;·subst q2;exact e
  ·exact tr _ _ _ (h i (j-1) (by omega) (by omega)) e
 ·exact h i j hij (by omega)
theorem Des.more{p:Array Nat}{k:Nat}(h:Des lt p k)(h1:1<=k)(e:lt (at0 p k) (at0 p (k-1))=true):Des lt p (k+1):=λi j hij hj=>by
 by_cases q:j=k
 ·subst q;by_cases q2:i=j-1;·subst q2;exact e
  ·exact tr _ _ _ e (h i (j-1) (by omega) (by omega))
 ·exact h i j hij (by omega)
include tot
theorem z3g{p:Array Nat}(P:PmN N p):∀(f n0:Nat),1<=n0->n0+f<=N->Asc lt p n0->∃m,kev N lt (kas_asc p f n0)=some m/\n0<=m/\m<=n0+f/\Asc lt p m/\(m<n0+f->lt (at0 p m) (at0 p (m-1))=true)
 | 0,n0,h1,hN,ha=>⟨n0,rfl,_h _,_h _,ha,λz=>absurd z (by omega)⟩ | f+1,n0,h1,hN,ha=>by
  have b1:=P.bd (i:=n0) (by omega);have b2:=P.bd (i:=n0-1) (by omega);by_cases c:lt (at0 p n0) (at0 p (n0-1))=true
  ·refine⟨n0,?_,_h _,by omega,ha,λ_=>c⟩;show (if at0 p n0<N/\at0 p (n0-1)<N then kev N lt (if lt (at0 p n0) (at0 p (n0-1))=true then KasT.ret n0 else kas_asc p f (n0+1)) else none)=_;rw[_f ⟨b1,b2⟩,_f c];rfl
  ·have e:lt (at0 p (n0-1)) (at0 p n0)=true:=by
    rw[tot _ _ b1 b2 (P.ne (by omega) (by omega) (by omega))];simpa using c
   obtain⟨m,e1,e2,e3,e4,e5⟩:=z3g P f (n0+1) (by omega) (by omega) (ha.more tr h1 e);refine⟨m,?_,by omega,by omega,e4,λz=>e5 (by omega)⟩;show (if at0 p n0<N/\at0 p (n0-1)<N then kev N lt (if lt (at0 p n0) (at0 p (n0-1))=true then KasT.ret n0 else kas_asc p f (n0+1)) else none)=_;rw[_f ⟨b1,b2⟩,_i c];exact e1
theorem z6s{p:Array Nat}(P:PmN N p):∀(f n0:Nat),1<=n0->n0+f<=N->Des lt p n0->∃m,kev N lt (kas_desc f p n0 0)=some (p,m,0)/\n0<=m/\m<=n0+f/\Des lt p m
 | 0,n0,h1,hN,ha=>⟨n0,rfl,_h _,_h _,ha⟩ | f+1,n0,h1,hN,ha=>by
  have b1:=P.bd (i:=n0) (by omega);have b2:=P.bd (i:=n0-1) (by omega);by_cases c:lt (at0 p n0) (at0 p (n0-1))=true
  ·obtain⟨m,e1,e2,e3,e4⟩:=z6s P f (n0+1) (by omega) (by omega) (ha.more tr h1 c);refine⟨m,?_,by omega,by omega,e4⟩;show (if at0 p n0<N/\at0 p (n0-1)<N then kev N lt (if lt (at0 p n0) (at0 p (n0-1))=true then (if 0 > 0 then kas_desc f (kas_rev p (n0-(0+1)) n0) (n0+1) 0 else kas_desc f p (n0+1) 0) else _) else none)=_;rw[_f ⟨b1,b2⟩,_f c,_i (by omega)];exact e1
  ·have e:lt (at0 p (n0-1)) (at0 p n0)=true:=by
    rw[tot _ _ b1 b2 (P.ne (by omega) (by omega) (by omega))];simpa using c
   refine⟨n0,?_,_h _,by omega,ha⟩;show (if at0 p n0<N/\at0 p (n0-1)<N then kev N lt (if lt (at0 p n0) (at0 p (n0-1))=true then _ else KasT.ask (at0 p (n0-1)) (at0 p n0) λd=>if d=true then .ret (p,n0,0) else kas_desc f p (n0+1) (0+1)) else none)=_;rw[_f ⟨b1,b2⟩,_i c];show (if at0 p (n0-1)<N/\at0 p n0<N then kev N lt (if lt (at0 p (n0-1)) (at0 p n0)=true then .ret (p,n0,0) else kas_desc f p (n0+1) (0+1)) else none)=_;rw[_f ⟨b2,b1⟩,_f e];rfl
omit tot tr in
theorem zdE {p:Array Nat} {m i:Nat} (hm:m<=p.size) (hi:i<m):at0 (kas_rev p 0 m) i=at0 p (m-1-i):=by
 have e:=getElem?_mirror_all (xs:=p) (i:=0) (j:=m) hm i;rw[_f ⟨_Y _,hi⟩]at e;simp only[at0,Array.getD_eq_getD_getElem?,kas_rev];rw[e];simp
theorem z8X{p:Array Nat}(P:PmN N p)(hN:1<=N):∃m p',kev N lt (kas_count N p)=some (m,p')/\PmN N p'/\Asc lt p' m/\1<=m/\m<=N:=by
 obtain⟨m,e1,e2,e3,e4,e5⟩:=z3g tot tr P (N-1) 1 (_h _) (by omega) (λi j h1 h2=>by omega);unfold kas_count;rw[vG,e1];simp only[_J];by_cases q:m=N
 ·rw[_f (by simpa using q)];exact⟨m,p,rfl,P,e4,e2,by omega⟩
 ·rw[_i (by simpa using q)];by_cases q1:m > 1
  ·rw[_f q1];have b1:=P.bd (i:=0) (by omega);have b2:=P.bd (i:=m-1) (by omega);have c:=e4 0 (m-1) (by omega) (by omega);refine⟨m,p,?_,P,e4,e2,by omega⟩;show (if at0 p 0<N/\at0 p (m-1)<N then kev N lt (if lt (at0 p 0) (at0 p (m-1))=true then KasT.ret (m,p) else _) else none)=_;rw[_f ⟨b1,b2⟩,_f c];rfl
  ·rw[_i q1];have m1:m=1:=by omega
   subst m1;have c:=e5 (by omega);obtain⟨k,f1,f2,f3,f4⟩:=z6s tot tr P (N-(1+1)) (1+1) (by omega) (by omega) (λi j h1 h2=>by
    have:i=0:=by omega
    have:j=1:=by omega
    subst i;subst j;exact c);unfold kas_descPart;rw[vG,f1];simp only[_J];rw[_i (by omega)];unfold kas_tail3;have P2:PmN N (kas_rev p 0 k):=P.of (mirror_perm _ _ _ _);have sz:=P.size;have as2:Asc lt (kas_rev p 0 k) k:=λi j h1 h2=>by
    rw[zdE (by omega) (by omega),zdE (by omega) (by omega)];exact f4 _ _ (by omega) (by omega)
   obtain⟨m2,g1,g2,g3,g4,_⟩:=z3g tot tr P2 (N-k) k (by omega) (by omega) as2;rw[vG,g1];exact⟨m2,kas_rev p 0 k,rfl,P2,g4,by omega,by omega⟩
theorem z0h{p:Array Nat}(P:PmN N p){k:Nat}(hk:k<N)(ha:Asc lt p k):∀(f l r:Nat),l<=r->r<=k->r-l<=f->(∀i,i<l->lt (at0 p i) (at0 p k)=true)->(∀i,r<=i->i<k->lt (at0 p k) (at0 p i)=true)-> ∃m,kev N lt (kas_place p k f l r)=some m/\m<=k/\(∀i,i<m->lt (at0 p i) (at0 p k)=true)/\∀i,m<=i->i<k->lt (at0 p k) (at0 p i)=true
 | 0,l,r,h1,h2,h3,hl,hr=>⟨l,rfl,by omega,hl,λi z1 z2=>hr i (by omega) z2⟩ | f+1,l,r,h1,h2,h3,hl,hr=>by
  by_cases q:l ≥ r
  ·refine⟨l,?_,by omega,hl,λi z1 z2=>hr i (by omega) z2⟩;rw[kas_place,_f q];rfl
  ·have b1:=P.bd (i:=k) hk;have b2:=P.bd (i:=(l+r) / 2) (by omega);by_cases c:lt (at0 p k) (at0 p ((l+r) / 2))=true
   ·obtain⟨m,e1,e2,e3,e4⟩:=z0h P hk ha f l ((l+r) / 2) (by omega) (by omega) (by omega) hl (λi z1 z2=>by
     by_cases z:i=(l+r) / 2;·subst z;exact c
     ·exact tr _ _ _ c (ha _ _ (by omega) z2));refine⟨m,?_,e2,e3,e4⟩;rw[kas_place,_i q];show (if at0 p k<N/\at0 p ((l+r) / 2)<N then kev N lt (if lt (at0 p k) (at0 p ((l+r) / 2))=true then kas_place p k f l ((l+r) / 2) else _) else none)=_;rw[_f ⟨b1,b2⟩,_f c];exact e1
   ·have e:lt (at0 p ((l+r) / 2)) (at0 p k)=true:=by
     rw[tot _ _ b1 b2 (P.ne hk (by omega) (by omega))];simpa using c
    obtain⟨m,e1,e2,e3,e4⟩:=z0h P hk ha f ((l+r) / 2+1) r (by omega) h2 (by omega) (λi z1=>by
     by_cases z:i=(l+r) / 2;·subst z;exact e
     ·exact tr _ _ _ (ha _ _ (by omega) (by omega)) e) hr;refine⟨m,?_,e2,e3,e4⟩;rw[kas_place,_i q];show (if at0 p k<N/\at0 p ((l+r) / 2)<N then kev N lt (if lt (at0 p k) (at0 p ((l+r) / 2))=true then _ else kas_place p k f ((l+r) / 2+1) r) else none)=_;rw[_f ⟨b1,b2⟩,_i c];exact e1
omit tot tr in
theorem zd9 {p:Array Nat} {k l i:Nat} (hk:k<p.size) (hl:l<=k) (hi:i<=k):at0 (bubble p k (k-l)) i=if i=l then at0 p k else if l<i then at0 p (i-1) else at0 p i:=by
 have e:=getElem?_bubble (xs:=p) (src:=k) hk (k-l) (by omega) i;simp only[at0,Array.getD_eq_getD_getElem?];rw[e];by_cases q:i=l;·rw[_f (by omega),_f q]
 ·rw[_i (by omega),_i q];by_cases q2:l<i;·rw[_f (by omega),_f q2]
  ·rw[_i (by omega),_i q2]
theorem z8L:∀(f k:Nat)(p:Array Nat),PmN N p->k+f=N->Asc lt p k->∃p',kev N lt (kas_bin f p k)=some p'/\PmN N p'/\Asc lt p' N
 | 0,k,p,P,hk,ha=>⟨p,rfl,P,by rw[<- hk];exact ha⟩ | f+1,k,p,P,hk,ha=>by
  obtain⟨l,e1,e2,e3,e4⟩:=z0h tot tr P (k:=k) (by omega) ha k 0 k (_Y _) (_h _) (by omega) (λi z=>absurd z (by omega)) (λi z1 z2=>absurd z1 (by omega));have sz:=P.size;have P2:PmN N (bubble p k (k-l)):=P.of (bubble_perm _ _ _);have as2:Asc lt (bubble p k (k-l)) (k+1):=λi j h1 h2=>by
   rw[zd9 (by omega) e2 (by omega),zd9 (by omega) e2 (by omega)];by_cases qi:i=l
   ·rw[_f qi,_i (by omega),_f (by omega)];exact e4 (j-1) (by omega) (by omega)
   ·rw [_i qi];by_cases qj:j=l
    ·rw[_f qj,_i (by omega)];exact e3 i (by omega)
    ·rw[_i qj];by_cases q1:l<i
     ·rw[_f q1,_f (by omega)];exact ha _ _ (by omega) (by omega)
     ·rw[_i q1];by_cases q2:l<j
      ·rw[_f q2];by_cases q3:j-1=i;·omega
       ·exact ha _ _ (by omega) (by omega)
      ·rw[_i q2];exact ha _ _ h1 (by omega)
  obtain⟨p',g1,g2,g3⟩:=z8L f (k+1) _ P2 (by omega) as2;refine⟨p',?_,g2,g3⟩;rw[kas_bin,vG,e1];exact g1
theorem z6G(hN:1<=N):∃p,kev N lt (kas_sort N)=some p/\p.toList.Perm (List.range N)/\p.toList.Pairwise λi j=>lt i j=true:=by
 have P:PmN N (List.toArray (List.range N)):=⟨by simp⟩;obtain⟨m,p,e1,e2,e3,e4,e5⟩:=z8X tot tr P hN;have fin:∀p:Array Nat,PmN N p->Asc lt p N->p.toList.Pairwise λi j=>lt i j=true:=λp P ha=>by
  rw[_bf];intro i j hi hj hij;have sz:=P.size;have hj':j<p.size:=by simpa using hj
  have:=ha i j hij (by omega);rw[at0,at0,Array.getD,Array.getD,dif_pos (by omega),dif_pos hj']at this;simpa using this
 unfold kas_sort;rw[vG,e1];simp only[_J];by_cases q:m<N
 ·rw[_f q];have hm:max m 1=m:=by omega
  rw[hm];obtain⟨p',g1,g2,g3⟩:=z8L tot tr (N-m) m p e2 (by omega) e3;exact⟨p',g1,g2.pm,fin p' g2 g3⟩
 ·rw[_i q];have:m=N:=by omega
  subst this;exact⟨p,rfl,e2.pm,fin p e2 e3⟩
end
def z9e(fin:Bool):List Int->List Int->Bool
 | x::a,y::b=>if x=y then z9e fin a b else decide (x<y) | _,_=>fin
theorem zdS:∀ns ms:List Int,z9e (decide (ns.length<ms.length)) ns ms=lexN ns ms
 | [],[]=>by simp[z9e,lexN] | [],_::_=>by simp[z9e,lexN] | _::_,[]=>by simp[z9e,lexN] | x::a,y::b=>by
  have:=zdS a b;simp only[z9e,lexN,_n,Nat.add_lt_add_iff_right,this]
def TupAt(h:Heap)(v:Value)(ns:List Int):Prop:=∃a o n us,v=.ref a/\h.get? a=some o/\o.cls=.type "tuple"/\o.data=.seq us n/\wo us.toList ns/\ns≠[]
inductive xk (h:Heap):List Value->List (List Int)->Prop | nil:xk h [] [] | cons {v p vs ps}:TupAt h v p->xk h vs ps->xk h (v::vs) (p::ps)
theorem xk.length{h:Heap}:∀{vs ps},xk h vs ps->vs.length=ps.length
 | _,_,.nil=>rfl | _,_,.cons _ r=>by simp[r.length]
theorem xk.at_{h:Heap}:∀{vs ps},xk h vs ps->∀i,i<ps.length->TupAt h (vs.getD i .none) (ps.getD i [])
 | _,_,.nil,i,hi=>by simp at hi | _,_,.cons p r,0,_=>by simpa using p | _,_,.cons p r,i+1,hi=>by simpa using r.at_ i (by simpa using hi)
theorem xk.mono{h h':Heap}(k:∀b o,h.get? b=some o->h'.get? b=some o):∀{vs ps},xk h vs ps->xk h' vs ps
 | _,_,.nil=>.nil | _,_,.cons ⟨a,o,n,us,e,g,c,d,i,z⟩ r=>.cons ⟨a,o,n,us,e,k _ _ g,c,d,i,z⟩ (r.mono k)
theorem xk.tups{h:Heap}:∀{vs ps},xk h vs ps->∃fs,KatTups h vs fs/\fs.length=ps.length/\∀v∈fs,∃i t,v=.int i t
 | _,_,.nil=>⟨[],KatTups.nil,rfl,λv hv=>by cases hv⟩ | _,_,.cons (p:=p) ⟨a,o,n,us,e,g,c,d,i,z⟩ r=>by
  obtain⟨fs,k,l,m⟩:=r.tups;subst e;obtain⟨ul⟩:=us;cases i with
  | nil=>exact absurd rfl z | @cons x t ws ns i'=>
   refine⟨.int x t::fs,KatTups.cons g c d rfl k,by simp[l],λv hv=>?_⟩;rcases _p.mp hv with rfl | hv;·exact⟨_,_,rfl⟩
   ·exact m v hv
section
variable {prog:Program}{w:World}{A:Around}{E:Value->Shared->Prop}{s:Shared}
theorem z6X {fin:Bool} {C:Bool->Shared->Prop}:∀{xs ys:List Value} {ns ms:List Int} (i:Nat),wo xs ns->wo ys ms->C (z9e fin ns ms) s->KatLex prog w A true fin C (xs.zip ys) i s
 | _,_,_,_,i,.nil,_,h=>by
  simp only[List.zip_nil_left];refine kat_nil ?_;simpa[z9e] using h | _,_,_,_,i,.cons _,.nil,h=>by
  simp only[List.zip_nil_right];refine kat_nil ?_;simpa[z9e] using h | _,_,_,_,i,.cons (i:=x) (t:=t) r,.cons (i:=y) (t:=t') r',h=>by
  simp only[List.zip_cons_cons];refine kat_cons (_du (kat_go (λe=>kat_yes (z6X (i+1) r r' ?_)) λe=>kat_no ?_))
  ·have e1:x=y:=by simpa using e
   simpa[z9e,e1] using h
  ·have e1:¬ x=y:=by simpa using e
   have h':C (decide (x<y)) s:=by simpa[z9e,e1] using h
   cases i with
   | zero=>
    have hb:(true&&((0:Nat)==0))=true:=rfl;rw[hb];exact oneLt_int h' | succ i=>
    have hb:(true&&((i+1:Nat)==0))=false:=by simp
    rw[hb];exact kat_one _ _ (PyProof.Rows.lt_int h')
theorem zfg{v u:Value}{p q:List Int}{C:Bool->Shared->Prop}(hv:TupAt s.heap v p)(hu:TupAt s.heap u q)(h:C (lexN p q) s):wpAny (model prog w) A (keyLt' (tuples' true) v u) C E s:=by
 obtain⟨a,o,n,us,rfl,g,c,d,i,_⟩:=hv;obtain⟨b,o',n',us',rfl,g',c',d',i',_⟩:=hu;refine kat_lt g d g' d' (z6X 0 i i' ?_);have e:decide (us.size<us'.size)=decide (p.length<q.length):=by
  have:=i.length;have:=i'.length;simp only[_ae]at *;simp[*]
 rw[e,zdS];exact h
theorem zab{vs:List Value}{ps:List (List Int)}{Q:SortKind->Shared->Prop}(hp:xk s.heap vs ps)(h0:0<ps.length)(h:Q (tuples' true) s):wpAny (model prog w) A (keyKind' vs.toArray) Q E s:=by
 obtain⟨fs,k,l,m⟩:=hp.tups;refine kat_kind (T:=.type "int") k (by rw[l];exact h0) (λv hv=>?_) rfl h;obtain⟨i,t,rfl⟩:=m v hv;exact Looks.of_pure rfl
theorem zg2{κ:SortKind}{it:Array Keyed}{n:Nat}{Q:Unit->SortSt->Shared->Prop}{G:Array Nat->Shared->Prop}(h2:2<=n) (hG:∀p' st' s',p'.size=n->arrOf st'=p'.map (kas_item it)->failedOf st'=none->G p' s'->Q () st' s')(h:(kas_count n (List.toArray (List.range n))).kasWp (kas_cmp prog w A κ it) (λr s'=>r.1=n/\G r.2 s') s): kasC (model prog w) A E sortRuns' Q (kas_st κ it (List.toArray (List.range n))) s:=by
 obtain⟨r,rfl⟩:∃r,n=r+2:=⟨n-2,by omega⟩;have hrs:(List.toArray (List.range (r+2))).size=r+2:=by simp
 rw[sortRuns'_eq];refine kasC_bind (kasC_get ?_);dsimp only;have hsz:(arrOf (kas_st κ it (List.toArray (List.range (r+2))))).size=r+2:=by
  show ((List.toArray (List.range (r+2))).map (kas_item it)).size=_;rw[Array.size_map,hrs]
 have hmr:∀f m c,m+c<=r+2->1<=m->minRun' f m c<=r+2:=by
  intro f;induction f with
  | zero=>intro m c h _;exact h | succ f ih=>
   intro m c h h1;rw[minRun'_succ];split;·exact h
   ·exact ih _ _ (by omega) (by omega)
 have hmr:=hmr (r+2) (r+2) 0 (_h _) (by omega);simp only[hsz];generalize minRun' (r+2) (r+2) 0=mr at hmr;refine kasC_bind (kasC_range ?_);show kasC _ _ _ (forIn (0::1::List.range' 2 r) _ _) _ _ _;refine kasC_cons ?_;dsimp only;rw[_i (by omega)];simp only[Nat.sub_zero,_av];refine kasC_bind (kas_count_ (by omega) (by rw[hrs];exact _h _) (λm p' s' hm1 hm2 hp hg=>?_) h);have hps:p'.size=r+2:=hp.trans hrs;obtain⟨em,hg'⟩:=hg;have em':m=r+2:=em;subst em';dsimp only;rw[_i (by omega)];refine kasC_bind (kasC_get ?_);rw[show (pendingOf (kas_st κ it p')).back? = none from rfl];dsimp only;refine kasC_bind (kasC_modify (kasC_pure ?_));show kasC _ _ _ (forIn (1::List.range' 2 r) _ _) _ _ _;refine kasC_cons ?_;dsimp only;rw[_f (_h _)];refine kasC_pure ?_;dsimp only;refine kasC_bind (kasC_range ?_);show kasC _ _ _ (forIn (0::1::List.range' 2 r) _ _) _ _ _;refine kasC_cons ?_;refine kasC_bind (kasC_get ?_);rw[_f (show (pendingOf (setPending (kas_st κ it p') ((pendingOf (kas_st κ it p')).push (0,r+2,0)))).size<=1 from _h 1)];refine kasC_pure ?_;dsimp only;exact kasC_pure (hG p' _ _ hps rfl rfl hg')
def zgk(ps:List (List Int))(p:Array Nat):Prop:= (ps.length<2/\p=List.toArray (List.range ps.length))\/ (2<=ps.length/\ps.length<64/\kev ps.length (λi j=>lexN (ps.getD i []) (ps.getD j [])) (kas_sort ps.length)=some p)\/ (2<=ps.length/\kev ps.length (λi j=>lexN (ps.getD i []) (ps.getD j [])) (kas_count ps.length (List.toArray (List.range ps.length)))=some (ps.length,p))
theorem zbC {vs:List Value} {ps:List (List Int)} {p:Array Nat} {Q:SortSt->Shared->Prop} (hp:xk s.heap vs ps) (h2:2<=ps.length) (hP:zgk ps p) (h:∀st',p.size=vs.length->arrOf st'=p.map (kas_item (vs.toArray.zip vs.toArray))->failedOf st'=none->Q st' s): wpAny (model prog w) A ((sortRuns').run (SortSt.mk' (tuples' true) (vs.toArray.zip vs.toArray) #[] 7 none)) (λr s'=>Q r.2 s') E s:=by
 have lenP:=hp.length;have cmp:∀i j (C:Bool->Shared->Prop),i<ps.length->j<ps.length->C (lexN (ps.getD i []) (ps.getD j [])) s->kas_ask prog w A (tuples' true) vs i j C s:=λi j C hi hj hC=>zfg (hp.at_ i hi) (hp.at_ j hj) hC;rcases hP with⟨z,_⟩ | ⟨_,h64,e⟩ | ⟨_,e⟩;·omega
 ·refine kat_run (ks:=vs) (vs:=vs) (G:=λq s'=>q=p/\s'=s) rfl (by omega) (by omega) (λq st' s' a1 a2 a3 a4=>?_) (z7k (n:=ps.length) cmp _ p (by rw[lenP];exact e) ⟨rfl,rfl⟩);obtain⟨rfl,rfl⟩:=a4;exact h st' a1 a2 a3
 ·have hc:(kas_count vs.length (List.toArray (List.range vs.length))).kasWp (kas_cmp prog w A (tuples' true) (vs.toArray.zip vs.toArray)) (λr s'=>r.1=vs.length/\(r.2=p/\s'=s)) s:=by
   rw[<- kat_ask_eq (ks:=vs) (vs:=vs) rfl];refine z7k (n:=ps.length) cmp _ (ps.length,p) (by rw[lenP];exact e) ⟨lenP.symm,rfl,rfl⟩
  have run:=zg2 (E:=E) (Q:=λ_ st' s'=>Q st' s') (G:=λq s'=>q=p/\s'=s) (by omega) (λq st' s' a1 a2 a3 a4=>by obtain⟨rfl,rfl⟩:=a4;exact h st' a1 a2 a3) hc;have est:SortSt.mk' (tuples' true) (vs.toArray.zip vs.toArray) #[] 7 none=kas_st (tuples' true) (vs.toArray.zip vs.toArray) (List.toArray (List.range vs.length)):=by
   have e:=kas_range (vs.toArray.zip vs.toArray);rw[show (vs.toArray.zip vs.toArray).size=vs.length by simp]at e;show SortSt.mk' (tuples' true) (vs.toArray.zip vs.toArray) #[] 7 none=SortSt.mk' (tuples' true) ((List.toArray (List.range vs.length)).map (kas_item (vs.toArray.zip vs.toArray))) #[] 7 none;rw[e]
  rw[est];exact run
theorem jF {a:Addr} {vs:List Value} {ps:List (List Int)} {n:Nat} {p:Array Nat} {P:PySem.Fin->Shared->Prop} (ho:s.heap.get? a=some (seqObj "list" vs.toArray n)) (hp:∀h',(∀b o,b≠a->s.heap.get? b=some o->h'.get? b=some o)->xk h' vs ps) (hline:vs.length<=sizeLine) (hP:zgk ps p) (h:P (.done (.ret .none)) {s with heap:=sortedHeap s.heap a vs (kU vs p)}):wpAny (model prog w) A (Builtin.«list.sort» ⟨[.ref a],[]⟩) P E s:=by
 have ha:a<s.heap.objs.size:=_l ho;have lenP:vs.length=ps.length:=(hp s.heap λ_ _ _ e=>e).length;obtain⟨e1,g1⟩:∃e1,(s.heap.update a (Obj.mapSeq λ_=>(#[]:Array Value))).get? a=some (seqObj "list" #[] e1):=⟨_,get?_update_seq ho λ_=>#[]⟩;have g2:(((s.heap.update a (Obj.mapSeq λ_=>(#[]:Array Value))).push (seqObj "tuple" vs.toArray 0)).push (seqObj "list" #[] 0)).get? a=some (seqObj "list" #[] e1):=_c _ (_c _ g1);have hp1:xk (((s.heap.update a (Obj.mapSeq λ_=>(#[]:Array Value))).push (seqObj "tuple" vs.toArray 0)).push (seqObj "list" #[] 0)) vs ps:=hp _ λb o hb e=> _c _ (_c _ (((_ah s.heap a (Obj.mapSeq λ_=>(#[]:Array Value))).2 b hb).trans e));rw[list_sort_plain];refine _a (_dP ho rfl (_a (_bO ho rfl (_a (_dj g1 rfl (_a (wpAny_newTuple (_a (_bC (_X ?_) (_Y _))) hline)))) (by rw[_q];exact hline) (_Y _))));dsimp only;by_cases big:vs.toArray.size<2
 ·rw[_f big,_f big];have small:vs.length<2:=by simpa using big
  have ep:p=List.toArray (List.range ps.length):=by
   rcases hP with⟨_,z⟩ | ⟨z,_⟩ | ⟨z,_⟩;·exact z
   ·omega
   ·omega
  have eo:kU vs p=vs.toArray:=by
   rw[ep,<- lenP];unfold kU;congr 1;apply _a7;·simp
   ·intro i h1 h2;simp[h2]
  refine _a (_b (_a (_b ?_)));dsimp only;have out:(arrOf (SortSt.mk' general' (vs.toArray.zip vs.toArray) #[] 7 none)).map (·.2)=vs.toArray:=by
   show ((vs.toArray.zip vs.toArray).map (·.2))=_;apply Array.ext_getElem?;intro i;by_cases hi:i<vs.length<;>simp[hi]
  rw[out];refine _a (_dj g2 rfl (_a (_bO g2 rfl ?_ (_Y _) (by rw[_q];exact _dk hline))));simp only[_bj,_s,_P];rw[eo]at h;exact _b h
 ·rw[_i big,_i big];have b2:2<=ps.length:=by rw[<- lenP];simpa using big
  refine _a (zab (s:={s with heap:=((s.heap.update a (Obj.mapSeq λ_=>(#[]:Array Value))).push (seqObj "tuple" vs.toArray 0)).push (seqObj "list" #[] 0)}) hp1 (by omega) ?_);refine _a (_D (zbC (s:={s with heap:=((s.heap.update a (Obj.mapSeq λ_=>(#[]:Array Value))).push (seqObj "tuple" vs.toArray 0)).push (seqObj "list" #[] 0)}) (p:=p) (Q:=λst' s'=>p.size=vs.length/\arrOf st'=p.map (kas_item (vs.toArray.zip vs.toArray))/\failedOf st'=none/\s'={s with heap:=((s.heap.update a (Obj.mapSeq λ_=>(#[]:Array Value))).push (seqObj "tuple" vs.toArray 0)).push (seqObj "list" #[] 0)}) hp1 b2 hP λst' a1 a2 a3=>⟨a1,a2,a3,rfl⟩) ?_ λ_ _ z=>z);rintro⟨⟨⟩,st'⟩ s' ⟨hq,har,hf,rfl⟩;dsimp only;have out:=kat_snds (ks:=vs) (vs:=vs) rfl har;rw[out,hf];refine _a (_dj g2 rfl (_a (_bO g2 rfl ?_ (_Y _) (by rw[_q,_w,_ae,hq];exact _dk hline))));simp only[_bj,_s,_P];exact _b h
theorem z84 {l:Addr} {vs:List Value} {ps:List (List Int)} {p:Array Nat} {Q:Value->Shared->Prop} (hl:s.heap.IsList l vs.toArray) (hp:xk s.heap vs ps) (hline:vs.length<=sizeLine) (hP:zgk ps p) (h:Q (.ref (s.heap.objs.size+1)) {s with heap:=sortedAll s.heap vs (kU vs p)}): wpAny (model prog w) A (call (.builtin "sorted") [.ref l]) Q E s:=by
 refine _be kind_sorted _dQ _dR (_dS _) ?_;unfold Builtin.«sorted»;refine _a (m:=checkCount "sorted" 1 1 _) (_b (_a (collect_list hl (_a (_bC ?_ (by simpa using hline))) (by simpa using hline))));have sz:((s.heap.push (seqObj "list" #[] 0)).update s.heap.objs.size (Obj.mapSeq (· ++ vs.toArray))).objs.size=s.heap.objs.size+1:=by rw[_dB,_dT]
 have g:(((s.heap.push (seqObj "list" #[] 0)).update s.heap.objs.size (Obj.mapSeq (· ++ vs.toArray))).push (seqObj "list" vs.toArray 0)).get? (s.heap.objs.size+1)=some (seqObj "list" vs.toArray 0):=by
  rw[<- sz];exact _g _ rfl
 have keep:∀b o,s.heap.get? b=some o->(((s.heap.push (seqObj "list" #[] 0)).update s.heap.objs.size (Obj.mapSeq (· ++ vs.toArray))).push (seqObj "list" vs.toArray 0)).get? b=some o/\b≠s.heap.objs.size+1:=λb o q=>by
  have lt:b<s.heap.objs.size:=_l q;refine⟨?_,_t (_aa lt)⟩;rw[_bk _ _ _ (by rw[sz];exact _t (_aa lt)),Heap.get?_update_ne _ _ _ _ (_t lt),_bk _ _ _ (_t lt)];exact q
 show wpAny (model prog w) _ _ _ _ {s with heap:=((s.heap.push (seqObj "list" #[] 0)).update s.heap.objs.size (Obj.mapSeq (· ++ vs.toArray))).push (seqObj "list" vs.toArray 0)};rw[sz];exact _a (_X (_I _cZ ⟨_,g,rfl⟩ _cN (jF g (λh' k=>hp.mono λb o q=>k b o (keep b o q).2 (keep b o q).1) hline hP ⟨_,rfl,_b ⟨_,rfl,h⟩⟩) (_c0 _)))
end
section
variable {X:Cx}{E:XK}
def zgB(K:W.Frag):List V->Hp->VK->Prop:=λxs H Q=>∃(l:Addr)(ys:List V)(ps:List (List Int))(p:Array Nat),xs=[.ref l]/\SqL K H l ys/\Paired (λv ns=>AtN H v ns) ys ps/\(∀n∈ps,n≠[])/\zgk ps p/\ (∀i∈p.toList,i<ys.length)/\p.toList.length=ys.length/\∀r,H r=none->Q (.ref r) (upd H r (.lst (p.toList.map λi=>ys.getD i .non)))
theorem zaE{pins:List (Addr×Obj)}{O:L2.St}{H:Hp}{s:Shared}(I:Inv X pins O H s):∀{ys:List V}{its:List Value}{ps:List (List Int)},yd ys its->Paired (λv ns=>AtN H v ns) ys ps->(∀n∈ps,n≠[])->xk s.heap its ps
 | [],_,_,.nil,.nil,_=>.nil | y::ys,_,_,.cons r rs,.cons a p,hn=>by
  refine .cons ?_ (zaE I rs p λn hm=>hn n (.tail _ hm));obtain⟨b,its,rfl,rfl,⟨o,g,c,k,d⟩,z⟩:=a.tuple I r;exact⟨b,o,k,its,rfl,g,c,d,z,hn _ (.head _)⟩
theorem z7K:yN X (.builtin "sorted") (zgB X.K):=by
 intro pins s O H xs us Q I r h;obtain⟨l,ys,ps,p,rfl,hq,hp,hn,hP,hin,hpl,q⟩:=h;obtain⟨u,rfl,rx⟩:=vals1 r;cases rx;obtain⟨its,r',pl,hz⟩:=I.list hq;have hlen:=r'.length;refine z84 (ps:=ps) (p:=p) pl.isList (zaE I r' hp hn) (by omega) hP ?_;obtain⟨c',e⟩:=_dU s.heap its (kU its p);refine⟨.ref (s.heap.objs.size+1),_,I.laid (t':=s.toks) (λb o z=>_dq z) (_br _) (show yq X.prog X.w _ (sortedAll s.heap its (kU its p)) _ (.lst (p.toList.map λi=>ys.getD i .non)) from⟨?_,_,c',z2h r' p.toList hin,e⟩),rfl,q _ (I.hok.fresh (_br _))⟩;rw[_w,hpl];exact hz
def ziN(L:List (List Int)):Option (Array Nat):= if L.length<2 then some (List.toArray (List.range L.length)) else if L.length<64 then kev L.length (λi j=>lexN (L.getD i []) (L.getD j [])) (kas_sort L.length) else match kev L.length (λi j=>lexN (L.getD i []) (L.getD j [])) (kas_count L.length (List.toArray (List.range L.length))) with
  | some (m,p)=>if m=L.length then some p else none | none=>none
theorem z9h{L:List (List Int)}{p:Array Nat}(h:ziN L=some p):zgk L p:=by
 unfold ziN at h;split at h;·rename_i q;exact .inl ⟨q,(_E h).symm⟩
 ·split at h;·rename_i q1 q2;exact .inr (.inl ⟨by omega,q2,h⟩)
  ·split at h
   ·rename_i m q e;split at h
    ·rename_i em;cases h;subst em;exact .inr (.inr ⟨by omega,e⟩)
    ·cases h
   ·cases h
end
end Dd
namespace Dd
open L2
def zbk:List D->Option (List (List Key×V))
 | .non::ys=>z3k ys | xs=>z3k xs
theorem z2m{kvs:List (List Key×V)}(h:zaU kvs):zbk (encD kvs)=some kvs:=by
 have:=dec_enc h;cases kvs with
 | nil=>exact this | cons p r=>exact this
theorem Rep.dicF{mg:Gm}{H:Hp}{Y:List Addr}{s:Sto}(r:Rep mg H Y s){l:Nat}{xs:List D}{a:Addr}{kvs:List (List Key×V)}(h:s[l]? = some xs)(ha:Y[l]? = some a)(k:IsC H a)(hd:zbk xs=some kvs):zaU kvs/\((H a=some (.dT kvs)/\xs=encD kvs)\/∃o,H a=some (.frz o (.dT kvs))/\xs=.non::encD kvs):=by
 rcases r.dic h ha k with⟨kvs',q1,q2⟩ | ⟨o,kvs',ys,q1,rfl,q2⟩ | ⟨kvs',g,q1,q2⟩ | ⟨o,kvs',ys,q1,rfl,q2,fz⟩
 ·obtain⟨z1,z2,z3⟩:=z0O q2;rw[z1,z2m z2]at hd;cases hd;exact⟨z2,.inl ⟨q1,z1⟩⟩
 ·obtain⟨z1,z2,z3⟩:=z0O q2;have hd:z3k ys=some kvs:=hd;rw[z3]at hd;cases hd;exact⟨z2,.inr ⟨o,q1,by rw[z1]⟩⟩
 ·refine absurd (z3z q2 (kvs:=kvs) ?_) g;cases xs with
  | nil=>exact hd | cons d ds=>
   obtain⟨k,ys,b,vs,r,rfl,h1,h2,h3⟩:=q2;rcases h2 with⟨rfl,_⟩ | ⟨rfl,_⟩<;>exact hd
 ·have hd:z3k ys=some kvs:=hd;have e:=z3z q2 hd;exact absurd e fz.2
theorem zk3{H:Hp}{p:Addr}(h:IsC H p):IsD H p:=by
 rcases h with⟨kvs,q⟩ | ⟨o,kvs,q⟩ | ⟨kvs,_,q⟩ | ⟨o,kvs,q⟩;·exact .inr ⟨kvs,.inl q⟩
 ·exact .inr ⟨kvs,.inr ⟨o,q⟩⟩
 ·exact .inl ⟨kvs,.inl q⟩
 ·exact .inl ⟨kvs,.inr ⟨o,q⟩⟩
def ui(s:Sto)(o k:D):Option (Option V):=match o,k with
 | .dlo l,.tup ks=>match (s[l]?).bind zbk,jO ks with
  | some kvs,some key=>some (xU kvs key) | _,_=>none
 | _,_=>none
theorem zd5{kvs:List (List Key×V)}(h:zaU kvs){k:List Key}{v:V}(e:xU kvs k=some v):(z8i v).isSome=true:=by
 unfold xU at e;obtain⟨p,hp,rfl⟩:=_x.mp e;exact h p (List.mem_of_find?_eq_some hp)
theorem zdq{mg:Gm}{H:Hp}{Y:List Addr}{v:V}(h:(z8i v).isSome=true):Den mg H Y (vD v) v:=by cases v with
 | int i=>simp[vD,Den] | bl b=>simp[vD,Den] | _=>simp[z8i]at h
section
variable {X:Cx}{E:XK}{a b e f o i:Expr}{pos apos:Pos}
theorem z5u{H:Hp}{Y:List Addr}{s:Sto}{od kd:D}{x y:V}{ov:Option V}(r:Rep (gm X) H Y s)(h1:Den (gm X) H Y od x)(h2:Den (gm X) H Y kd y)(h:ui s od kd=some ov):∃p,x=.ref p/\zbH H p y ov/\(∀v,ov=some v->(z8i v).isSome=true):=by
 unfold ui at h;split at h
 ·rename_i l ks;split at h
  ·rename_i kvs key ek edk;cases h;simp only[Den]at h1;obtain⟨p,rfl,e1,ka⟩:=h1;obtain⟨xs,ex,edc⟩:=_ak.mp ek;obtain⟨z2,q⟩:=r.dicF ex e1 ka edc;have rd:Rd H p (.dT kvs):=q.imp (λq=>q.1) λ⟨o,q,_⟩=>⟨o,q⟩;rw[z2I edk]at h2;simp only[Den]at h2;obtain⟨c,vs,rfl,hb,hd⟩:=h2;rw[z04 hd]at hb;exact⟨p,rfl,.inr ⟨kvs,key,c,rd,rfl,hb,rfl⟩,λv e=>zd5 z2 e⟩
  ·cases h
 ·cases h
def zgh(neg:Bool)(k o:D)(s:Sto):R D:=match ui s o k with
 | some ov=>.ok (.bl (if neg then !ov.isSome else ov.isSome)) s | none=>.no
def zjy(neg:Bool):R2:=λy x H Q=>∃p ov,x=.ref p/\zbH H p y ov/\Q (.bl (if neg then !ov.isSome else ov.isSome)) H
theorem zkC(hu:X.A.units+64<cLine):OpR X (compareOp .In) (zjy false):=by
 intro pins s O H x y v u Q I rx ry h;obtain⟨p,ov,rfl,g,q⟩:=h;cases ry;exact zlt (A:=X.A) (by omega) I g rx λs' I'=>⟨.bl ov.isSome,H,I',rfl,q⟩
theorem zaZ(hu:X.A.units+64<cLine):OpR X (compareOp .NotIn) (zjy true):=by
 intro pins s O H x y v u Q I rx ry h;obtain⟨p,ov,rfl,g,q⟩:=h;cases ry;exact zfL (A:=X.A) (by omega) I g rx λs' I'=>⟨.bl (!ov.isSome),H,I',rfl,q⟩
theorem zef{neg:Bool}:OpF X E (zjy neg) (zgh neg):=λH Y s d1 d2 v1 v2 Q r h1 h2 h=>by
 unfold zgh at h;split at h
 ·rename_i ov e1;obtain⟨p,rfl,g,_⟩:=z5u r h2 h1 e1;exact⟨p,ov,rfl,g,h.here r wz⟩
 ·exact h.elim
theorem zca(hu:X.A.units+64<cLine):∃r,OpR X (compareOp .NotIn) r/\OpF X E r (zgh true):=⟨_,zaZ hu,zef⟩
def z8s(fo fk:FE):FE:=fun ρ s=>(fo ρ s).bind λo s1=>(fk ρ s1).bind λk s2=>match ui s2 o k with
 | some (some v)=>.ok (vD v) s2 | _=>.no
theorem zhI{fo fk:FE}(hu:X.A.units+64<cLine)(ho:RE X E o fo)(hi:RE X E i fk)(hs:zjS i:=by intro _ _;rfl):RE X E (.Subscript o i pos) (z8s fo fk):= zQ (ze6 (by omega) ho hi hs) λO H Q ⟨Y,ρ,s,r,en,h⟩=>by
  unfold z8s at h;refine zM (k:=fun ρ o s1=>(fk ρ s1).bind λk s2=>match ui s2 o k with | some (some v)=>.ok (vD v) s2 | _=>.no) r en h _ λv H1 Y1 s1 d r1 en1 dn stp h1=>?_;refine zM (k:=fun ρ k s2=>match ui s2 d k with | some (some v)=>.ok (vD v) s2 | _=>.no) r1 en1 h1 _ λv2 H2 Y2 s2 kd r2 en2 dn2 stp2 h2=>?_;split at h2
  ·rename_i u eu;obtain⟨p,rfl,g,al⟩:=z5u r2 (dn.mono stp2) dn2 eu;exact⟨p,u,rfl,g,h2.here r2 (zdq (al u rfl))⟩
  ·exact h2.elim
def z6N(fo fk fx:FE):FE:=fun ρ s=>(fo ρ s).bind λo s1=>match o with
 | .dlo l=>(fk ρ s1).bind λk s2=>(fx ρ s2).bind λx s3=>match ui s3 (.dlo l) k with
  | some ov=>.ok (match ov with | some v=>vD v | none=>x) s3 | none=>.no
 | _=>.no
theorem zeL{fo fk fx:FE}(hu:X.A.units+64<cLine)(ho:RE X E o fo)(he:RE X E e fk)(hf:RE X E f fx)(hbase:attributeBase o "get" X.env (eval o X.env)=eval o X.env:=by rfl) (hfew:((backTo pos (starEach [e,f] X.env)).all (λx=>!x.1)&&(backToKw pos (keywordEach [] X.env)).all (λx=>x.1.isSome) && decide (([e,f]:List Expr).length+([]:List Keyword).length+(if ([]:List Keyword).isEmpty then 0 else 1)<30))=true:=by rfl) (hline:(apos.endLine==pos.line)=true:=by rfl)(htr:backTo pos (starEach [e,f] X.env)=[(false,eval e X.env),(false,eval f X.env)]:=by rfl): RE X E (.Call (.Attribute o "get" apos) [e,f] [] pos) (z6N fo fk fx):= zQ (zbR (by omega) ho he hf ⟨hbase,hfew,hline,htr⟩) λO H Q ⟨Y,ρ,s,r,en,h⟩=>by
  unfold z6N at h;refine zM (k:=fun ρ o s1=>match o with
   | .dlo l=>(fk ρ s1).bind λk s2=>(fx ρ s2).bind λx s3=>match ui s3 (.dlo l) k with
    | some ov=>.ok (match ov with | some v=>vD v | none=>x) s3 | none=>.no
   | _=>.no) r en h _ λv H1 Y1 s1 d r1 en1 dn stp h1=>?_;split at h1
  ·rename_i l;have dl:=dn;simp only[Den]at dl;obtain⟨p,rfl,e1,ka⟩:=dl;have isd:IsD H1 p:=zk3 ka;refine⟨p,rfl,isd,?_⟩;refine zM (k:=fun ρ k s2=>(fx ρ s2).bind λx s3=>match ui s3 (.dlo l) k with
    | some ov=>.ok (match ov with | some v=>vD v | none=>x) s3 | none=>.no) r1 en1 h1 _ λv2 H2 Y2 s2 kd r2 en2 dn2 stp2 h2=>?_;refine zM (k:=fun ρ x s3=>match ui s3 (.dlo l) kd with
    | some ov=>.ok (match ov with | some v=>vD v | none=>x) s3 | none=>.no) r2 en2 h2 _ λv3 H3 Y3 s3 xd r3 en3 dn3 stp3 h3=>?_;split at h3
   ·rename_i ov eu;obtain⟨p',e',g,al⟩:=z5u r3 ((dn.mono stp2).mono stp3) (dn2.mono stp3) eu;cases e';refine⟨ov,g,?_⟩;cases ov with
    | none=>exact h3.here r3 dn3 | some u=>exact h3.here r3 (zdq (al u rfl))
   ·exact h3.elim
  ·exact h1.elim
end
@[simp] theorem zfm (fo fk:FE)(ρ:Ev)(s:Sto):z8s fo fk ρ s=(fo ρ s).bind λo s1=>(fk ρ s1).bind λk s2=>match ui s2 o k with
 | some (some v)=>.ok (vD v) s2 | _=>.no:=id rfl
@[simp] theorem zbU (fo fk fx:FE)(ρ:Ev)(s:Sto):z6N fo fk fx ρ s=(fo ρ s).bind λo s1=>match o with
 | .dlo l=>(fk ρ s1).bind λk s2=>(fx ρ s2).bind λx s3=>match ui s3 (.dlo l) k with
  | some ov=>.ok (match ov with | some v=>vD v | none=>x) s3 | none=>.no
 | _=>.no:=id rfl
end Dd
namespace L2
open Dd
def Itd(a:Addr)(o:Obj)(kvs:List (List Key×V)):It:= ⟨λi H=>H a=some (.frz o (.dT kvs))/\i<kvs.length,λi H x H'=>H'=H/\∃p b,kvs[i]? = some p/\x=.ref b/\H b=some (.tup (p.1.map kV)),λi H=>H a=some (.frz o (.dT kvs))/\kvs.length<=i⟩
theorem zbN{P:Program}{w:World}{K:W.Frag}{tg:Expr}(a it:Addr){o:Obj}{es:Array DictEntry}{ep:Nat}(ho:o.data=.dict es ep)(kvs:List (List Key×V)):zbX P w K tg (Itd a o kvs) [it] it (λi h=>h.IsKeyIter it a i es.size ep) where
 mem:=by simp
 obj:=λi h st b hb=>by
  have e:b=it:=by simpa using hb
  subst e;obtain⟨o,e,c,d⟩:=st;exact⟨o,e,λv z=>by rw[d]at z;cases z⟩
 keep:=λi h h' st k=>st.at λo e=>k it (by simp) o e;item:=by
  intro X hP hw hK hc i pins s O H E I hf st hg;subst hP hw hK;obtain⟨ha,hi⟩:=hg;obtain⟨h0,z,lo,xs,rel,o',es',ep',h1,h2,h3,h4,h5⟩:=(show yq X.prog X.w H s.heap a (.frz o (.dT kvs)) from I.hok a _ ha);rw[h0]at h1;cases h1;rw[ho]at h3;cases h3;obtain⟨p,hp⟩:∃p,kvs[i]? = some p:=⟨kvs[i],_e hi⟩;obtain⟨x,hx,r1,r2,r3⟩:=Dd.kg rel i p hp;obtain⟨f0,f1,f2,f3,f4,f5⟩:=hf it (by simp);have he:es[i]? = some (entryOfKey (tupleKind (zy X.prog X.w)) x):=by rw[entry_at h4,hx];rfl
  refine zbs st h0 ho he λh' st' sb=>?_;have I1:Inv X pins O H {s with heap:=h'}:=I.turned (t':=s.toks) (λb o hb e=>(sb.2 b hb).trans e) f0 f1 f3 f4 f5;obtain⟨o2,e,c,d⟩:=id st';exact⟨_,rfl,z8I (s:={s with heap:=h'}) e c d (by decide) ⟨.ref x.2.1,H,I1,rfl,⟨rfl,p,x.2.1,hp,rfl,r2⟩,st',λb hb=>(hf b hb).1⟩⟩
 done:=by
  intro X hP hw hK hc i pins s O H E I hf st hg;subst hP hw hK;obtain⟨ha,hi⟩:=hg;obtain⟨h0,z,lo,xs,rel,o',es',ep',h1,h2,h3,h4,h5⟩:=(show yq X.prog X.w H s.heap a (.frz o (.dT kvs)) from I.hok a _ ha);rw[h0]at h1;cases h1;rw[ho]at h3;cases h3;have hl:xs.length=kvs.length:=(_cw rel).symm;have hsz:es.size=xs.length:=size_of_entries h4;obtain⟨f0,f1,f2,f3,f4,f5⟩:=hf it (by simp);exact zel (I.ok.hd hc) st h0 ho (by simp;omega) λh' eb=>⟨rfl,I.turned (t':=s.toks) (λb o hb e=>eb b o hb e) f0 f1 f3 f4 f5⟩
 self:=λ_ _ _ _ _ st hQ=>wpAny_pyIter_keyiter st hQ
theorem zhK{X:Cx}{tg l:Expr}{tl:TE}(hl:PE X l tl):PI X tg l (λO H R=>tl O H λx H1=>∃a kvs,x=.ref a/\((H1 a=some (.dT kvs)/\∀o,R (Itd a o kvs) (upd H1 a (.frz o (.dT kvs))))\/∃o,H1 a=some (.frz o (.dT kvs))/\R (Itd a o kvs) H1)):=by
 intro pins s O H R I h;refine thn (hl pins s O H _ I h) λv s1 ⟨x,H1,I1,r1,q1⟩=>?_;obtain⟨a,kvs,e,q⟩:=q1;subst e;cases r1;have fin:∀(o:Obj)(H2:Hp),Inv X pins O H2 s1->H2 a=some (.frz o (.dT kvs))->R (Itd a o kvs) H2->wpAny (model X.prog X.w) X.A (pyIter (.ref a)) (PIE X pins O tg R) X.xe s1:=λo H2 I2 ha q=>by
  obtain⟨h0,z,lo,xs,rel,o',es,ep,h1,h2,h3,h4,h5⟩:=(show yq X.prog X.w H2 s1.heap a (.frz o (.dT kvs)) from I2.hok a _ ha);rw[h0]at h1;cases h1;refine zcG lo ⟨o,h0,h2,h3⟩ ?_;refine⟨s1.heap.objs.size,[s1.heap.objs.size],_,_,H2,rfl,I2.kept (t':=s1.toks) λb o e=>_c _ e,zbN a _ h3 kvs,⟨_,_g _ rfl,rfl,rfl⟩,λb hb=>?_,q⟩;have e:b=s1.heap.objs.size:=by simpa using hb
  subst e;exact I2.fpOk (_h _) (I2.hok.fresh (_h _))
 rcases q with⟨ha,q⟩ | ⟨o,ha,q⟩
 ·obtain⟨_,_,xs,_,o,es,ep,h1,_⟩:=(show yq X.prog X.w H1 s1.heap a (.dT kvs) from I1.hok a _ ha);exact fin o _ (I1.freeze ha h1 (by intro _ z;cases z) (by intro _ _ z;cases z) (by intro _ z;cases z) (by intro _ z;cases z)) zC (q o)
 ·exact fin o H1 I1 ha q
end L2
namespace Dd
open L2
section
variable {X:Cx}{E:XK}{e tg:Expr}
def z6h(f:FE):FI:=fun ρ s=>(f ρ s).bind λd s1=>match d with
 | .dlo l=>match (s1[l]?).bind zbk with
  | some kvs=>.ok (z2e kvs,[]) (s1.set l (.non::encD kvs)) | none=>.no
 | _=>.no
theorem zeE{mg:Gm}{H:Hp}{Y:List Addr}{p:List Key×V}{b:Addr}(h:H b=some (.tup (p.1.map kV))):Den mg H Y (.tup (p.1.map z4W)) (.ref b):=by
 simp only[Den];exact⟨b,_,rfl,h,z3l _⟩
theorem zj9 {f:FE} (h:RE X E e f):RI X E tg e (z6h f):=z1H (zhK h) λO H Q ⟨Y,ρ,s,r,en,h⟩=>by
 unfold z6h at h;refine⟨Y,ρ,s,r,en,(okR.bind (Dn:=Den (gm X)) h).imp λv H1 ⟨Y1,s1,d,stp,dn,h1⟩=>?_⟩;split at h1
 ·rename_i l;split at h1
  ·rename_i kvs ek;obtain⟨xs,ex,edc⟩:=_ak.mp ek;simp only[Den]at dn;obtain⟨a,rfl,e1,ka⟩:=dn;obtain⟨al,q⟩:=stp.rep.dicF ex e1 ka edc;have fl:D.flat.flats (D.non::encD kvs)=true:=z2o kvs;have ok:∀(o:Obj) (H2:Hp) (Y2:List Addr),H2 a=some (.frz o (.dT kvs))->zbm (gm X) H2 Y2 (z2e kvs,[]) (Itd a o kvs):=λo H2 Y2 ha H3 Y3 s3 stp3 _ i=>by
    have ha3:=stp3.stay ha (by intro _ z;cases z);refine⟨λd hd=>?_,λhl=>⟨ha3,by simpa[z2e] using hl⟩⟩;have hi:i<kvs.length:=by have:=(_d.mp hd).1;simpa[z2e] using this
    refine⟨⟨ha3,hi⟩,λx H' ⟨e3,p,b,hp,ex,hb⟩=>?_⟩;subst e3 ex;have:d=.tup (p.1.map z4W):=by
     have hd:(z2e kvs)[i]? = some d:=hd;rw[z2e,_S,hp]at hd;exact (_E hd).symm
    subst this;exact⟨Y3,.refl stp3.rep,zeE hb⟩
   refine⟨a,kvs,rfl,?_⟩;rcases q with⟨ha,hx⟩ | ⟨o,ha,hx⟩
   ·refine .inl ⟨ha,λo=>?_⟩;have stp2:=yX.putC (l:=l) (o:=.frz o (.dT kvs)) stp.rep e1 (.putC ⟨_,ha⟩ (.inr ⟨o,kvs,rfl⟩)) (.inr (.inr (.inl ⟨o,kvs,encD kvs,zC,rfl,z2B al⟩))) fl;exact h1 _ _ _ stp2 (ok o _ _ zC)
   ·refine .inr ⟨o,ha,?_⟩;have e2:s1.set l (.non::encD kvs)=s1:=by
     rw[<- hx];exact List.ext_getElem? λj=>by
      by_cases z:l=j;·subst z;rw[_Z (_d.mp ex).1,ex]
      ·rw[_L z]
    rw[e2]at h1;exact h1 _ _ _ (.refl stp.rep) (ok o _ _ ha)
  ·exact h1.elim
 ·exact h1.elim
end
@[simp] theorem zeQ (f:FE)(ρ:Ev)(s:Sto):z6h f ρ s=(f ρ s).bind λd s1=>match d with
 | .dlo l=>match (s1[l]?).bind zbk with
  | some kvs=>.ok (z2e kvs,[]) (s1.set l (.non::encD kvs)) | none=>.no
 | _=>.no:=id rfl
end Dd
namespace Pg
open L2 Dd
def xg:List (Str×Str):=[("next","by_next"),("least","by_least"),("all","by_all"),("turn","by_turn")]
@[simp] def z4R:FS:=(wg (zgj (eIs "int" (zc 0)) (zkm (eIs "bool" (zc 0)))))
def qE:FS:=z4R
def yc:Mir:=Mof ["thing"] 1 qE
@[simp] def z5a:FS:=(wg (zgj (eIs "tuple" (zc 0)) (z1b dLe dLe (eC (.int 2)) (zd vW (za (zc 0) zi)) (eC (.int 4)))))
def z0x:FS:=z5a
def wd:Mir:=Mof ["thing"] 1 z0x
@[simp] def yL:FS:=(vh 3 (z9n (za (kC zi) zi)))
@[simp] def yM:FS:=(vh 3 (z54 (yG (zc 3)) [some 1,some 2,none,none] 2 3 (z9f (za (zc 0) (za (eOp wP (zc 1) (eC (.int 1))) zi))) (eOp wP (zc 2) (kC (za (zc 3) zi)))))
@[simp] def yJ:FS:=(z9p (z5g (za (zc 0) zi)) (wH 4) yM)
@[simp] def jr:FS:=(wg (zc 3))
def vd:FS:=(zA yL (zA yJ jr))
def zR:Mir:=Mof ["size","least","most","found","place"] 3 vd
@[simp] def z1l:FS:=(wg (eC (.bl false)))
@[simp] def z1r:FS:=(fIf (fOr (z3D (tOf (eIs "tuple" (zc 0)))) (tOf (eOp dNe (zd vW (za (zc 0) zi)) (zc 1)))) z1l xM)
@[simp] def z1z:FS:=(wg (zd zhm (za (zK (yG (zc 0)) [none] (wH 0) xJ (zd yc (za (zc 0) zi))) zi)))
def je:FS:=(zA z1r z1z)
def xj:Mir:=Mof ["thing","many"] 2 je
@[simp] def z0J:FS:=fNo
@[simp] def uf:FS:=(fIf (fOr (z3D (tOf (zd yc (za (zc 0) zi)))) (z3D (tOf (z1b dLe dLe (zc 1) (zc 0) (zc 2))))) z0J xM)
def qp:FS:=uf
def yS:Mir:=Mof ["thing","least","most"] 3 qp
@[simp] def z2G:FS:=fNo
@[simp] def z3A:FS:=(fIf (fOr (z3D (tOf (zd yc (za (zc 0) zi)))) (z3D (tOf (z1b dLe dLe (eC (.int 2)) (zc 0) (zc 1))))) z2G xM)
def kM:FS:=z3A
def xG:Mir:=Mof ["thing","most"] 2 kM
@[simp] def z8o:FS:=(wg (eC (.bl false)))
@[simp] def z8m:FS:=(fIf (fOr (z3D (tOf (zd wd (za (zc 0) zi)))) (z3D (tOf (zd xj (za (zc 0) (za (zd vW (za (zc 0) zi)) zi)))))) z8o xM)
@[simp] def z7S:FS:=(wg (zgj (eOp dGe (zd z2u (za (zc 0) zi)) (eC (.int 0))) (eOp dGt (zd va (za (zc 0) zi)) (eC (.int 0)))))
def z40:FS:=(zA z8m z7S)
def vz:Mir:=Mof ["thing"] 1 z40
@[simp] def z3Q:FS:=fNo
@[simp] def z4r:FS:=(fIf (z3D (tOf (zd vz (za (zc 0) zi)))) z3Q xM)
def z0N:FS:=z4r
def yD:Mir:=Mof ["thing"] 1 z0N
@[simp] def z3j:FS:=(vU (zd yD (za (zc 0) zi)))
@[simp] def jw:FS:=(wg (eOp dEq (zd vW (za (zK (yG (zc 0)) [none] (wH 0) (tOf (eOp dNe (zc 0) (eC (.int 0)))) (zc 0)) zi)) (eC (.int 1))))
def ky:FS:=(zA z3j jw)
def zH:Mir:=Mof ["lot"] 1 ky
@[simp] def ur:FS:=(vh 1 (eLR (za (zc 0) zi)))
@[simp] def ue:FS:=(wg (zd uv (za (zK (yG (zc 1)) [some 1,none] (wH 1) xJ (zd uv (za (zK (yG (zc 0)) [some 1,none] (wH 1) xJ (eIf (tOf (eOp dEq (zc 0) (zc 1))) (eC (.int 1)) (eC (.int 0)))) zi))) zi)))
def qf:FS:=(zA ur ue)
def yU:Mir:=Mof ["size","places"] 1 qf
@[simp] def xq:FS:=(vh 1 (zcS (zc 0) (zd va (za (zc 0) zi))))
@[simp] def xu:FS:=(wg (kC (za (zc 1) (za (eOp wP (eOp wP (eSl (zc 0) yj (wZ (zc 1))) (kC (za (eC (.int 0)) zi))) (eSl (zc 0) (wZ (eOp wP (zc 1) (eC (.int 1)))) yj)) zi))))
def xC:FS:=(zA xq xu)
def zq:Mir:=Mof ["lot","at"] 1 xC
@[simp] def uw:FS:=(wg (zcS (zc 0) (zd z2u (za (zK (yG (zc 0)) [none] (wH 0) (tOf (eOp dNe (zc 0) (eC (.int 0)))) (zc 0)) zi))))
def uX:FS:=uw
def zP:Mir:=Mof ["lot"] 1 uX
@[simp] def z0w:FS:=(wg (zK (z5g (za (zd vW (za (zc 0) zi)) zi)) [some 1,none] (wH 1) (tOf (eOp dNe (zc 1) (zc 0))) (zc 1)))
def z1I:FS:=z0w
def yZ:Mir:=Mof ["lot","place"] 2 z1I
@[simp] def z64:FS:=(wg (zgj (eIs "str" (zc 0)) (z7f xg false (zc 0))))
def z1K:FS:=z64
def uc:Mir:=Mof ["thing"] 1 z1K
@[simp] def z4i:FS:=(wg (eIf (tOf (eOp dEq (zc 0) (eC (.str "turn")))) (eOp wP (eSl (zc 1) (wZ (eC (.int 1))) yj) (eSl (zc 1) yj (wZ (eC (.int 1))))) (zc 1)))
def z7z:FS:=z4i
def xP:Mir:=Mof ["rule","numbers"] 2 z7z
@[simp] def z6c:FS:=(zbo (zd zq (za (zc 0) zi)) (xI 1 2))
@[simp] def z0T:FS:=(wg (kC (za (zcS (zc 2) (zd va (za (zc 2) zi))) (za (z9n (za (zc 1) zi)) zi))))
def z1N:FS:=(zA z6c z0T)
def xN:Mir:=Mof ["lot","greatest","others"] 1 z1N
@[simp] def z3W:FS:=(zbo (zd zq (za (zc 0) zi)) (xI 1 2))
@[simp] def z4o:FS:=(wg (kC (za (zd zP (za (zc 2) zi)) (za (z9n (za (zc 1) zi)) zi))))
def z0M:FS:=(zA z3W z4o)
def xn:Mir:=Mof ["lot","greatest","others"] 1 z0M
@[simp] def z87:FS:=(vh 1 (zd zP (za (zc 0) zi)))
@[simp] def z7Z:FS:=(wg (kC (za (zc 1) (za (zd yZ (za (zc 0) (za (zc 1) zi))) zi))))
def z4P:FS:=(zA z87 z7Z)
def wN:Mir:=Mof ["lot","by"] 1 z4P
@[simp] def z5N:FS:=(wg (kC (za (eC (.int 0)) (za (z9n zi) zi))))
@[simp] def z5J:FS:=(fIf (tOf (eOp dEq (eOp dIx (zc 0) (eC (.int 0))) (eC (.int 0)))) z5N xM)
@[simp] def z6f:FS:=(wg (kC (za (eC (.int 0)) (za (zd yZ (za (zc 0) (za (eC (.int 0)) zi))) zi))))
def z1W:FS:=(zA z5J z6f)
def xO:Mir:=Mof ["lot"] 1 z1W
@[simp] def z32:FS:=fNo
@[simp] def z34:FS:=(fIf (z3D (tOf (zd uc (za (zc 0) zi)))) z32 xM)
def kL:FS:=z34
def zJ:Mir:=Mof ["thing"] 1 kL
@[simp] def z4L:FS:=(vh 2 (ziL xg (zc 0)))
@[simp] def kH:FS:=(zbo (z72 2 [("by_next",xN),("by_least",xn),("by_all",wN),("by_turn",xO)] (za (zc 1) zi)) (xI 3 4))
@[simp] def kN:FS:=(wg (kC (za (zc 3) (za (zK (z5g (za (zd vW (za (zc 1) zi)) zi)) [some 4,some 1,some 3,none] (wH 3) xJ (eIf (tOf (eOp (zee false) (zc 3) (zc 0))) (eOp z5V (eOp dIx (zc 1) (zc 3)) (eOp dIx (zc 1) (zc 2))) (eC (.int 0)))) zi))))
def z1c:FS:=(zA z4L (zA kH kN))
def yF:Mir:=Mof ["rule","lot","deal","by","divided"] 2 z1c
@[simp] def vX:FS:=(vU (zd zJ (za (zc 0) zi)))
@[simp] def uh:FS:=(vU (zd yD (za (zc 1) zi)))
def xT:FS:=(zA vX uh)
def zt:Mir:=Mof ["rule","lot"] 2 xT
@[simp] def z3r:FS:=(vU (zd zt (za (zc 0) (za (zc 1) zi))))
@[simp] def z2C:FS:=fNo
@[simp] def z3d:FS:=(fIf (tOf (zd zH (za (zc 1) zi))) z2C xM)
def kO:FS:=(zA z3r z3d)
def yi:Mir:=Mof ["rule","lot"] 2 kO
@[simp] def zbt:FS:=(vU (zd yi (za (zc 0) (za (zc 1) zi))))
@[simp] def zbv:FS:=(zbo (zd yF (za (zc 0) (za (zc 1) zi))) (xI 2 3))
@[simp] def z7B:FS:=(vh 4 (zd uv (za (zK (zdO (za (zc 1) (za (zc 3) zi))) [some 1,some 2,none,none] (xI 2 3) xJ (eOp zbj (zc 2) (eOp wI (zc 3) (eOp dIx (zc 0) (zc 1))))) zi)))
@[simp] def z78:FS:=(wg (zd xP (za (zc 0) (za (zc 4) zi))))
def zal:FS:=(zA zbt (zA zbv (zA z7B z78)))
def M_step:Mir:=Mof ["rule","lot","by","quotients","left"] 2 zal
@[simp] def z1i:FS:=(vU (zd yi (za (zc 0) (za (zc 1) zi))))
@[simp] def z1p:FS:=(zbo (zd yF (za (zc 0) (za (zc 1) zi))) (xI 2 3))
@[simp] def qq:FS:=(wg (zd uv (za (zK (zdO (za (zd yU (za (zd vW (za (zc 1) zi)) zi)) (za (zc 3) zi))) [some 0,some 2,none,none] (xI 2 3) xJ (zd xP (za (zc 0) (za (eOp wP (eOp wP (eSl (zc 2) yj (wZ (zc 1))) (kC (za (eOp wP (eOp dIx (zc 2) (zc 1)) (zc 3)) zi))) (eSl (zc 2) (wZ (eOp wP (zc 1) (eC (.int 1)))) yj)) zi)))) zi)))
def jx:FS:=(zA z1i (zA z1p qq))
def yQ:Mir:=Mof ["rule","lot","by","quotients"] 2 jx
@[simp] def zeb:FS:=(vU (zd zt (za (zc 0) (za (zc 1) zi))))
@[simp] def zaA:FS:=(vh 2 (zfq (za (zc 1) zi)))
@[simp] def z2E:FS:=(vU (zfh (zc 2) (zd M_step (za (zc 0) (za (eOp dIx (zc 2) (z5k (eC (.int 1)))) zi)))))
@[simp] def za3:FS:=(z22 (z3D (tOf (zd zH (za (eOp dIx (zc 2) (z5k (eC (.int 1)))) zi)))) z2E)
@[simp] def ze7:FS:=(wg (zc 2))
def zdG:FS:=(zA zeb (zA zaA (zA za3 ze7)))
def M_run:Mir:=Mof ["rule","lot","lots"] 2 zdG
@[simp] def jz:FS:=(wg (zK (yG (eSl (jh (zd M_run (za (zc 0) (za (zc 1) zi)))) yj (wZ (z5k (eC (.int 1)))))) [some 0,none] (wH 1) xJ (zd yQ (za (zc 0) (za (zc 1) zi)))))
def kK:FS:=jz
def xE:Mir:=Mof ["rule","lot"] 2 kK
@[simp] def xR:FS:=(vh 3 zhf)
@[simp] def yu:FS:=(vh 5 (zfq (za (zc 4) zi)))
@[simp] def xa:FS:=(vU (zfh (zc 5) (zd M_step (za (zc 0) (za (eOp dIx (zc 5) (z5k (eC (.int 1)))) zi)))))
@[simp] def yy:FS:=(z22 (zgg (tOf (eOp (zgh true) (eOp dIx (zc 5) (z5k (eC (.int 1)))) (zc 3))) (z3D (tOf (zd zH (za (eOp dIx (zc 5) (z5k (eC (.int 1)))) zi))))) xa)
@[simp] def yx:FS:=(vh 6 (z6N (zc 3) (eOp dIx (zc 5) (z5k (eC (.int 1)))) (eC (.int 0))))
@[simp] def yB:FS:=(zaO (zc 3) (zc 7) (zc 6))
@[simp] def xS:FS:=(zge 6 (eC (.int 1)))
@[simp] def xf:FS:=(z9p (yG (z4F (zc 5))) (wH 7) (zA yB xS))
@[simp] def xb:FS:=(z9p (yG (eSl (zd zR (za (zc 1) (za (eC (.int 0)) (za (zc 2) zi)))) (wZ (eC (.int 1))) yj)) (wH 4) (zA yu (zA yy (zA yx xf))))
@[simp] def jT:FS:=(wg (zc 3))
def uB:FS:=(zA xR (zA xb jT))
def yh:Mir:=Mof ["rule","size","most","steps","lot","path","many","behind"] 3 uB
@[simp] def ql:FS:=(wg (eOp zbj (zd vW (za (jh (zd M_run (za (zc 0) (za (zc 1) zi)))) zi)) (eC (.int 1))))
def jm:FS:=ql
def zD:Mir:=Mof ["rule","lot"] 2 jm
@[simp] def qr:FS:=(vU (zd zJ (za (zc 0) zi)))
@[simp] def qk:FS:=(vU (zd zJ (za (zc 1) zi)))
@[simp] def z1t:FS:=(vh 3 (eC (.int 0)))
@[simp] def z1w:FS:=zdw
@[simp] def zV:FS:=(fIf (tOf (eOp dNe (zd vS (za (zc 4) zi)) (zd vS (za (zc 5) zi)))) z1w xM)
@[simp] def yE:FS:=(zge 3 (eC (.int 1)))
@[simp] def xK:FS:=(z9p (zdO (za (z4F (jh (zd M_run (za (zc 0) (za (zc 2) zi))))) (za (z4F (jh (zd M_run (za (zc 1) (za (zc 2) zi))))) zi))) (xI 4 5) (zA zV yE))
@[simp] def z1q:FS:=(wg (zc 3))
def jn:FS:=(zA qr (zA qk (zA z1t (zA xK z1q))))
def yo:Mir:=Mof ["one","other","lot","many","left","right"] 3 jn
@[simp] def uF:FS:=(vh 1 (zd z1P (za (zK (z94 (xg.map Prod.fst)) [some 0,none] (wH 1) xJ (kC (za (zd zD (za (zc 1) (za (zc 0) zi))) (za (zc 1) zi)))) zi)))
@[simp] def uG:FS:=(wg (zK (yG (zc 1)) [none,none] (xI 0 1) xJ (kC (za (zc 1) (za (zc 0) zi)))))
def z0R:FS:=(zA uF uG)
def wf:Mir:=Mof ["lot","found"] 1 z0R
@[simp] def kS:FS:=(wg (eOp dIx (zc 0) (zc 1)))
@[simp] def kY:FS:=(fIf (tOf (eOp dLt (zc 1) (zd vW (za (zc 0) zi)))) kS xM)
@[simp] def kT:FS:=(wg (eC (.int 0)))
def wy:FS:=(zA kY kT)
def yC:Mir:=Mof ["_law_script","_law_k"] 2 wy
@[simp] def z4A:FS:=(wg (zfq (za (eOp zbj (zc 0) (eOp z8u (eC (.int 10)) (eC (.int 18)))) zi)))
@[simp] def z4M:FS:=(fIf (tOf (eOp dGe (zc 0) (eOp z8u (eC (.int 10)) (eC (.int 18))))) z4A xM)
@[simp] def z53:FS:=(vh 1 (eC (.int 0)))
@[simp] def kG:FS:=(vh 3 (eOp za8 (eOp wI (eOp wP (eOp wP (eOp za8 (zc 0) (eC (.int 2147483629))) (eOp wI (eC (.int 7919)) (zc 2))) (eC (.int 1))) (eC (.int 48271))) (eC (.int 2147483647))))
@[simp] def kz:FS:=(vh 3 (eOp za8 (eOp wP (eOp wP (eOp wI (zc 3) (zc 3)) (eOp wI (eC (.int 69621)) (zc 2))) (eC (.int 7))) (eC (.int 2147483587))))
@[simp] def kI:FS:=(vh 1 (eOp wP (eOp wI (zc 1) (eC (.int 2147483587))) (zc 3)))
@[simp] def kE:FS:=(z9p (z5g (za (eC (.int 64)) zi)) (wH 2) (zA kG (zA kz kI)))
@[simp] def z4H:FS:=(wg (zfq (za (zc 1) zi)))
def qI:FS:=(zA z4M (zA z53 (zA kE z4H)))
def we:Mir:=Mof ["_law_cell","_law_number","_law_j","_law_more"] 1 qI
@[simp] def qc:FS:=(wg (z9n (za (eC (.str "all")) (za (eC (.str "least")) (za (eC (.str "next")) (za (eC (.str "turn")) zi))))))
def qZ:FS:=qc
def yp:Mir:=Mof [] 0 qZ
@[simp] def z3s:FS:=(vh 2 (eOp za8 (eOp dIx (zc 0) (eC (.int 0))) (zc 1)))
@[simp] def z2s:FS:=(z4u (zc 0) (eC (.int 0)) (eOp z5V (eOp dIx (zc 0) (eC (.int 0))) (zc 1)))
@[simp] def z2v:FS:=(wg (zc 2))
def kJ:FS:=(zA z3s (zA z2s z2v))
def zh:Mir:=Mof ["_law_pot_here","_law_far","_law_found"] 2 kJ
@[simp] def uD:FS:=(vh 1 (eOp wP (eC (.int 2)) (zd zh (za (zc 0) (za (eC (.int 3)) zi)))))
@[simp] def uy:FS:=(vh 2 (eOp dIx (z9n (za (eC (.int 13)) (za (eC (.int 1000)) (za (eOp z8u (eC (.int 10)) (eC (.int 6))) (za (eOp z8u (eC (.int 10)) (eC (.int 30))) (za (eC (.int 3)) (za (eC (.int 60)) zi))))))) (zd zh (za (zc 0) (za (eC (.int 6)) zi)))))
@[simp] def uu:FS:=(vh 3 (zd zh (za (zc 0) (za (eC (.int 4)) zi))))
@[simp] def uA:FS:=(vh 4 (zfq zi))
@[simp] def wM:FS:=(vh 6 (eOp wP (zd zh (za (zc 0) (za (zc 2) zi))) (eC (.int 1))))
@[simp] def wS:FS:=(vU (zfh (zc 4) (eOp wI (zc 6) (zd zgc (za (eOp dGe (zd zh (za (zc 0) (za (eC (.int 4)) zi))) (zc 3)) zi)))))
@[simp] def ub:FS:=(z9p (z5g (za (zc 1) zi)) (wH 5) (zA wM wS))
@[simp] def ku:FS:=(z4u (zc 4) (zd zh (za (zc 0) (za (zc 1) zi))) (eOp wP (eC (.int 1)) (zd zh (za (zc 0) (za (zc 2) zi)))))
@[simp] def wO:FS:=(fIf (tOf (eOp dEq (zd va (za (zc 4) zi)) (eC (.int 0)))) ku xM)
@[simp] def vI:FS:=(vh 7 (eOp wP (eC (.int 1)) (zd zh (za (zc 0) (za (eC (.int 12)) zi)))))
@[simp] def ja:FS:=(z4u (zc 4) (zd zh (za (zc 0) (za (zc 1) zi))) (eOp dIx (zc 4) (zd zh (za (zc 0) (za (zc 1) zi)))))
@[simp] def wc:FS:=(fIf (tOf (eOp dEq (zd zh (za (zc 0) (za (eC (.int 3)) zi))) (eC (.int 0)))) ja xM)
@[simp] def jb:FS:=(z4u (zc 4) (eC (.int 0)) (eC (.int 1)))
@[simp] def xY:FS:=(fIf (tOf (eOp dEq (zd va (za (zc 4) zi)) (eC (.int 0)))) jb xM)
@[simp] def jI:FS:=(wg (zd uv (za (zK (yG (zc 4)) [some 7,none] (wH 1) xJ (eOp wI (zc 1) (zc 0))) zi)))
def z0D:FS:=(zA uD (zA uy (zA uu (zA uA (zA ub (zA wO (zA vI (zA wc (zA xY jI)))))))))
def vi:Mir:=zaN (Mof ["_law_pot_here","_law_size","_law_far","_law_thin","_law_numbers","_law_place","_law_number","_law_more"] 1 z0D)
end Pg
namespace Dd
open L2
theorem z9u {prog:Program} {w:World} {A:Around} {E:Value->Shared->Prop} {s:Shared} {it d:Addr} {i ep:Nat} {o:Obj} {es:Array DictEntry} {e:DictEntry} {Q:Option Value->Shared->Prop} (hit:s.heap.IsValIter it d i es.size ep) (hod:s.heap.get? d=some o) (hdd:o.data=.dict es ep) (he:es[i]? = some e) (hQ:∀h':Heap,h'.IsValIter it d (i+1) es.size ep->Heap.SameBut it s.heap h'->Q (some e.val) {s with heap:=h'}):wpAny (model prog w) A (pyNext (.ref it)) Q E s:=by
 obtain⟨oi,ho,hc,hd⟩:=id hit;refine _a (_bA (_U hit.typeIs _aw (_I _aw hit.typeIs _cf ?_ (_cc _))));refine _a (_b (_a (_a (_a (_aW hit.typeIs (_b (_a (_ca ho hd ?_))))))));have hown:Builtin.Dict_items.ownsTuple "dict_valueiterator"=false:=by decide +kernel
 rw[hown];simp only[_s,_P,_c1];show wpAny _ _ (if (Value.ref d==Value.none)=true then _ else _) _ _ _;rw[_i (by simp)];refine _a (_b (_a (_bl hod hdd ?_)));rw[_i (by simp)];refine _a (_b (_a (_bx hod hdd ?_)));rw[_i (by simp)];refine _b ?_;have hi:(if (i:Int)<0 then none else es[(i:Int).toNat]?)=some e:=by rw[_i (by omega)];simpa using he
 show wpAny _ _ (match (if (i:Int)<0 then none else es[(i:Int).toNat]?) with | some e=>_ | none=>_) _ _ _;rw[hi];refine _a (_a (_aW hit.typeIs (_b ?_)));rw[hown];refine _a (_ci hit.typeIs ?_);refine _a (_aU ho hd (show 1<4 by decide) ?_);have st':∀g:Array Value->Array Value,g #[Value.ref d,Value.int (i:Int) 0,Value.int (es.size:Int) 0,Value.int (ep:Int) 0]=#[Value.ref d,Value.int ((i+1:Nat):Int) 0,Value.int (es.size:Int) 0,Value.int (ep:Int) 0]->(s.heap.update it (Obj.mapFields g)).IsValIter it d (i+1) es.size ep:=λg hg=>by
  obtain⟨c0,d0,da,sl⟩:=oi;simp only at hc hd;subst hc hd;refine⟨_,_an _ ho rfl,rfl,?_⟩;show Data.fields (g _)=_;rw[hg]
 have st2:=st' (λx=>x.setIfInBounds 1 (rawInt ((i:Int)+1))) (by simp[rawInt]);refine _a (_X ?_);refine _a (_ci st2.typeIs ?_);rw[_i (by decide +kernel)];refine _a (_ci st2.typeIs ?_);rw[_f (by decide +kernel)];refine _b (_b ⟨_,rfl,_b ?_⟩);exact hQ _ st2 (_ah ..)
theorem zcX {prog:Program} {w:World} {A:Around} {E:Value->Shared->Prop} {s:Shared} {it d:Addr} {i ep:Nat} {o:Obj} {es:Array DictEntry} {Q:Option Value->Shared->Prop} (hh:A.handled=none) (hit:s.heap.IsValIter it d i es.size ep) (hod:s.heap.get? d=some o) (hdd:o.data=.dict es ep) (he:es[i]? = none) (hQ:∀h':Heap,Heap.ExtBut it s.heap h'->Q none {s with heap:=h'}):wpAny (model prog w) A (pyNext (.ref it)) Q E s:=by
 obtain⟨oi,ho,hc,hd⟩:=id hit;refine _a (_bA (_U hit.typeIs _aw (_I _aw hit.typeIs _cf ?_ (_cc _))));refine _a (_b (_a (_a (_a (_aW hit.typeIs (_b (_a (_ca ho hd ?_))))))));have hown:Builtin.Dict_items.ownsTuple "dict_valueiterator"=false:=by decide +kernel
 rw[hown];simp only[_s,_P,_c1];show wpAny _ _ (if (Value.ref d==Value.none)=true then _ else _) _ _ _;rw[_i (by simp)];refine _a (_b (_a (_bl hod hdd ?_)));rw[_i (by simp)];refine _a (_b (_a (_bx hod hdd ?_)));rw[_i (by simp)];refine _b ?_;have hi:(if (i:Int)<0 then none else es[(i:Int).toNat]?)=none:=by rw[_i (by omega)];simpa using he
 show wpAny _ _ (match (if (i:Int)<0 then none else es[(i:Int).toNat]?) with | some e=>_ | none=>_) _ _ _;rw[hi];refine _a (_a (_aW hit.typeIs (_b ?_)));rw[hown];refine _a (_aU ho hd (show 0<4 by decide) ?_);show wpAny _ _ (newExc (.type "StopIteration") [] >>= _) _ _ _;refine _a ?_;simp only[newExc,newTuple];refine _a (_G ?_ (by size_fits));refine _a (m:=firstArgMember _ _) (_cB (a:=Value.none) (by first | rfl | (simp only[firstArgMember];rfl)) ?_);refine _G ?_ (by size_fits);simp only[raiseNew];refine _a (_dn ?_);first | rw[show A.in1.handled=none from hh] | rw[hh]
 refine _a (_b (wpAny_throw ?_));refine _a (_bI (T:="StopIteration") (b:=true) ⟨_,_g _ rfl,rfl⟩ _cY ?_);exact _b (hQ _ (((_ah ..).extBut.push _).push _))
section
variable {prog:Program}{w:World}{A:Around}{E:Value->Shared->Prop}{s:Shared}{d:Addr}{es:Array DictEntry}{ep:Nat}
theorem z9B {v:Addr} {Q:Value->Shared->Prop} (hv:s.heap.IsValuesView v d) (hm:zbp s.heap d es ep) (hQ:Q (.ref s.heap.objs.size) {s with heap:=s.heap.push {cls:=.type "dict_valueiterator",data:=.fields #[.ref d,.int 0 0,.int es.size 0,.int ep 0]}}): wpAny (model prog w) A (pyIter (.ref v)) Q E s:=by
 obtain⟨ov,hov,hcv,hdv⟩:=id hv;obtain⟨o,ho,hc,hdat⟩:=id hm;refine _cb hv.typeIs F.slot_dict_values_iter (_I F.slot_dict_values_iter hv.typeIs F.entry_dict_values_iter ?_ (F.args_dict_values_iter_1 _));unfold Builtin.«dict_values.__iter__»;refine _a (_b (_a ?_));unfold Builtin.Dict_items.dictOf;refine _a (_ar hov hdv (x:=.ref d) rfl (_b (_a ?_)));unfold Builtin.Dict_items.newIterator;refine _a (_bl ho hdat (_a (_bx ho hdat ?_)));have hown:Builtin.Dict_items.ownsTuple "dict_valueiterator"=false:=by decide +kernel
 simp only[hown,_s,_P];refine _G (_b ⟨_,rfl,"dict_valueiterator",_,⟨_,_g _ rfl,rfl⟩,_aw.lookup,?_⟩);simpa[rawInt] using hQ
theorem z7E(hh:A.handled=none)(I d:Addr)(hne:d≠I)(es:Array DictEntry)(ep:Nat): Walks prog w A I [I,d] [I] es.size (λi v=>∃e,es[i]? = some e/\v=e.val) (λi h=>h.IsValIter I d i es.size ep/\zbp h d es ep) where
 sub:=λb hb=>by simp at hb;simp[hb]
 frame:=λ_ _ _ st hk=>⟨let ⟨o,ho,r⟩:=st.1;⟨o,hk I (by simp) o ho,r⟩,st.2.at λo e=>hk d (by simp) o e⟩;item:=λi s Q E hi st hQ=>by
  obtain⟨e,hx⟩:∃p,es[i]? = some p:=⟨es[i],by simp[hi]⟩;obtain⟨o,ho,hc,hdat⟩:=id st.2;refine z9u st.1 ho hdat hx λh' hit' hs'=>?_;exact hQ e.val h' s.toks ⟨e,hx,rfl⟩ ⟨hit',st.2.at λo e=>hs'.extBut d o hne e⟩ λb o hb e=>hs'.extBut b o (λh=>hb (by simp[h])) e
 done:=λs Q E st hQ=>by
  obtain⟨o,ho,hc,hdat⟩:=id st.2;exact zcX hh st.1 ho hdat (by simp) λh' he'=>hQ h' s.toks λb o hb e=>he' b o (λh=>hb (by simp[h])) e
 self:=λ_ _ _ _ st hQ=>wpAny_pyIter_valiter st.1 hQ
end
end Dd
namespace L2
open Dd Zz
def zao(v a:Addr):HO:=.ext λh=>h.IsValuesView v a
section
variable {X:Cx}{o:Expr}{apos cpos:Pos}
def zjv(td:TE):TE:=λO H Q=>td O H λx H1=>∃a kvs,x=.ref a/\Rd H1 a (.dT kvs)/\∀v,H1 v=none->Q (.ref v) (upd H1 v (zao v a))
theorem zg9 {td:TE} (ho:PE X o td) (hbase:attributeBase o "values" X.env (eval o X.env)=eval o X.env:=by rfl) (hline:(apos.endLine==cpos.line)=true:=by rfl): PE X (.Call (.Attribute o "values" apos) [] [] cpos) (zjv td):=by
 intro pins s O H Q I h;refine wpAny_Call_method hbase rfl hline PySem.F.plainAttrs_dict PySem.F.slot_dict_values PySem.F.type_dict_values (thn (ho pins s O H _ I h) λu s1 ⟨x,H1,I1,rx,a,kvs,ex,d,q1⟩=>?_);subst ex;obtain rfl:u=Value.ref a:=rx;obtain⟨t1,t2,lo⟩:=zdC I1 (.inr ⟨kvs,d⟩);refine⟨t1,t2,?_⟩;rw[show backTo cpos (starEach [] X.env)=[] from rfl];refine _bt rfl (PyProof.Rows.evalArgs_empty ?_);refine _I PySem.F.slot_dict_values t1 PySem.F.entry_dict_values ?_ (PySem.F.args_dict_values_1 _);refine _a ?_;unfold Builtin.Dict.noArgs;refine _a (wpAny_notOrdered_dict t1 ?_);show wpAny _ _ (pure a) _ _ s1;refine _b ?_;show wpAny _ _ (Builtin.Dict.showsAll a >>= _) _ _ s1;unfold Builtin.Dict.showsAll;rw[_i (by rw[lo];exact _R)];refine _a (_b (_a (_G (_b ⟨_,rfl,?_⟩))));have vw:(s1.heap.push {cls:=.type "dict_values",data:=.fields #[.ref a]}).IsValuesView s1.heap.objs.size a:=⟨_,_g _ rfl,rfl,rfl⟩;refine⟨.ref s1.heap.objs.size,_,I1.laid (t':=s1.toks) (o:=zao s1.heap.objs.size a) (λb o e=>_c _ e) (_h _) ⟨vw,⟨_,_g _ rfl⟩,λh1 h2 ⟨o,g,c,e⟩ k=>⟨o,k o g,c,e⟩⟩,rfl,q1 _ (I1.hok.fresh (_h _))⟩
def zjj:List V->Hp->VK->Prop:=λxs H Q=>∃v a kvs ns,xs=[.ref v]/\H v=some (zao v a)/\Rd H a (.dT kvs)/\kvs.map (·.2)=ns.map V.int/\ns≠[]/\Q (.int (maxL ns)) H
theorem zaC (hc:X.calm=true):yN X (.builtin "max") zjj:=by
 intro pins s O H xs us Q I r h;obtain⟨v,a,kvs,ns,rfl,hv,hd,hn,hne,q⟩:=h;obtain⟨u,rfl,ru⟩:=vals1 r;cases ru;obtain⟨vw,_,_⟩:=(show yq X.prog X.w H s.heap v (zao v a) from I.hok v _ hv);obtain⟨z,lo,ws,rel,o,es,ep,h1,h2,h3,h4,h5,h6⟩:=z4Y I.hok hd;have hl:ws.length=kvs.length:=(_cw rel).symm;have hsz:es.size=ws.length:=size_of_entries h4;have hnl:ns.length=kvs.length:=by have:=_aq List.length hn;simpa using this.symm
 have hpos:0<ns.length:=_cQ.mpr hne;have lt:a<s.heap.objs.size:=_l h1;have val:∀(i:Nat) (u:Value),(∃e,es[i]? = some e/\u=e.val)->∃t,u=.int (ns.getD i 0) t/\i<ns.length:=λi u ⟨e,he,eu⟩=>by
  rw[entry_at h4]at he;obtain⟨x,hx,rfl⟩:=_x.mp he;have hi:i<kvs.length:=by have:=(_d.mp hx).1;omega
  obtain⟨x',hx',r1,r2,r3⟩:=Dd.kg rel i kvs[i] (_e hi);rw[hx]at hx';cases hx';have en:kvs[i].2=V.int (ns.getD i 0):=by
   have:=_aq (·[i]?) hn;simp only[_S,_e hi,_e (show i<ns.length by omega),_H,_u]at this;rw[this];simp[List.getD,show i<ns.length by omega]
  rw[en]at r3;obtain⟨t,r3⟩:=r3;exact⟨t,by rw[eu];exact r3,by omega⟩
 refine call_max_walk (z9B vw ⟨o,h1,h2,h3⟩ ?_);refine⟨s.heap.objs.size,_,_,_,_,_,_,rfl,z7E (A:=X.A.in1) (I.ok.hd hc) s.heap.objs.size a (_t lt) es ep,⟨⟨_,_g _ rfl,rfl,rfl⟩,zbp.at ⟨o,h1,h2,h3⟩ λo e=>_c _ e⟩,λc hc=>?_,by omega,CmpOf.ints_gt (λi=>ns.getD i 0) (λi v e=>let ⟨t,e1,_⟩:=val i v e;⟨t,e1⟩),λv h' tk e hk=>?_⟩
 ·have:c=s.heap.objs.size\/c=a:=by simpa using hc
  rw[_dT];rcases this with rfl | rfl;·exact _aR _
  ·exact _aa lt
 ·obtain⟨t,e1,lt'⟩:=val _ _ e;obtain⟨_,k2⟩:=argBest_gt (λi=>ns.getD i 0) (es.size-1);have em:ns.getD (argBest (λi j=>decide (ns.getD i 0 > ns.getD j 0)) (es.size-1)) 0=maxL ns:=by
   refine _cL (maxL_ge _ (getD_in lt')) ?_;obtain⟨j,hj,ej⟩:=_z.mp (maxL_mem hne);have:=k2 j (by omega);simp only[List.getD,_e hj,_au,ej]at this;simpa[List.getD] using this
  rw[e1,em];refine⟨.int (maxL ns),H,I.kept (t':=tk) (λb o g=>hk b o (λz=>?_) (_c _ g)),⟨t,rfl⟩,q⟩;have eb:b=s.heap.objs.size:=by simpa using z
  exact absurd (eb ▸ _l g) (_aN _)
end
end L2
namespace Dd
open L2
def z1g:List (List Key×V)->Option (List Int)
 | []=>some [] | (_,.int i)::r=>(z1g r).map (i::·) | _::_=>none
theorem z4z:∀{kvs:List (List Key×V)}{ns:List Int},z1g kvs=some ns->kvs.map (·.2)=ns.map V.int
 | [],_,h=>by cases h;rfl | (k,v)::r,ns,h=>by cases v with
  | int i=>
   simp only[z1g]at h;obtain⟨m,hm,rfl⟩:=_x.mp h;simp[z4z hm] | _=>simp[z1g]at h
section
variable {X:Cx}{E:XK}{o:Expr}{x:Str}{p pos apos cpos:Pos}
def zbY(f:FE):FE:=fun ρ s=>(f ρ s).bind λd s1=>match d with
 | .dlo l=>match ((s1[l]?).bind zbk).bind z1g with
  | some (n::ns)=>.ok (.int (maxL (n::ns))) s1 | _=>.no
 | _=>.no
theorem zi5{f:FE}(hc:X.calm=true)(hg:Gl X "max")(hm:X.mg "max"=none)(hv:bootBuiltins "max"=some (.builtin "max"))(ho:RE X E o f)(hbase:attributeBase o "values" X.env (eval o X.env)=eval o X.env:=by rfl)(hline:(apos.endLine==cpos.line)=true:=by rfl): RE X E (.Call (.Name "max" p) [.Call (.Attribute o "values" apos) [] [] cpos] [] pos) (zbY f):= zQ (z0a (zaC hc) hg hm hv (ut (zg9 ho hbase hline) z0G) (by decide) (by decide) rfl rfl) λO H Q ⟨Y,ρ,s,r,en,h⟩=>by
  unfold zbY at h;refine zM (k:=fun ρ d s1=>match d with
   | .dlo l=>match ((s1[l]?).bind zbk).bind z1g with
    | some (n::ns)=>R.ok (D.int (maxL (n::ns))) s1 | _=>.no
   | _=>.no) r en h _ λv H1 Y1 s1 d r1 en1 dn stp h1=>?_;split at h1
  ·rename_i l;split at h1
   ·rename_i n ns ek;obtain⟨kvs,ek,evn⟩:=_ak.mp ek;obtain⟨xs,ex,edc⟩:=_ak.mp ek;simp only[Den]at dn;obtain⟨a,rfl,e1,ka⟩:=dn;obtain⟨al,q⟩:=r1.dicF ex e1 ka edc;have rd:Rd H1 a (.dT kvs):=q.imp (λq=>q.1) λ⟨o,q,_⟩=>⟨o,q⟩;refine⟨a,kvs,rfl,rd,λv hv=>?_⟩;have ne:a≠v:=λz=>by rcases rd with g | ⟨_,g⟩<;>rw[z,hv]at g<;>cases g
    have rd2:Rd (upd H1 v (zao v a)) a (.dT kvs):=rd.imp (λg=>by rw[zn ne];exact g) λ⟨o,g⟩=>⟨o,by rw[zn ne];exact g⟩;exact⟨v,a,kvs,n::ns,rfl,zC,rd2,z4z evn,by simp,h1 _ _ _ (yX.lay r1 hv (by intro _ z;cases z)) yk⟩
   ·exact h1.elim
  ·exact h1.elim
end
@[simp] theorem zej (f:FE)(ρ:Ev)(s:Sto):zbY f ρ s=(f ρ s).bind λd s1=>match d with
 | .dlo l=>match ((s1[l]?).bind zbk).bind z1g with
  | some (n::ns)=>.ok (.int (maxL (n::ns))) s1 | _=>.no
 | _=>.no:=id rfl
end Dd
set_option maxRecDepth 1000000
set_option maxHeartbeats 4000000
namespace Pm
abbrev Tb:=List (List Int)
def dot(r v:List Int):Int:=(List.zipWith (λa b=>a*b) r v).sum
def mv(T:Tb)(v:List Int):List Int:=T.map λr=>dot r v
def xV(T:Tb):Tb:=(List.range T.length).map λj=>T.map λr=>r.getD j 0
def zfJ(A B:Tb):Tb:=xV ((xV B).map (mv A))
def one(n:Nat):Tb:=(List.range n).map λi=>(List.range n).map λj=>if i=j then 1 else 0
structure Tab(n:Nat)(T:Tb):Prop where
 len:T.length=n
 row:∀r∈T,r.length=n
theorem z5r{α:Type}{l:List α}(h:l.length=2):∃a b,l=[a,b]:=by match l,h with | [a,b],_=>exact⟨a,b,rfl⟩
theorem z41{α:Type}{l:List α}(h:l.length=3):∃a b c,l=[a,b,c]:=by match l,h with | [a,b,c],_=>exact⟨a,b,c,rfl⟩
theorem z2T{α:Type}{l:List α}(h:l.length=4):∃a b c d,l=[a,b,c,d]:=by match l,h with | [a,b,c,d],_=>exact⟨a,b,c,d,rfl⟩
theorem ziU{T:Tb}(h:Tab 2 T):∃a b c d,T=[[a,b],[c,d]]:=by
 obtain⟨r,q,rfl⟩:=z5r h.len;obtain⟨a,b,rfl⟩:=z5r (h.row r (by simp));obtain⟨c,d,rfl⟩:=z5r (h.row q (by simp));exact⟨a,b,c,d,rfl⟩
theorem zjO{T:Tb}(h:Tab 3 T):∃a b c d e f g i j,T=[[a,b,c],[d,e,f],[g,i,j]]:=by
 obtain⟨r,q,p,rfl⟩:=z41 h.len;obtain⟨a,b,c,rfl⟩:=z41 (h.row r (by simp));obtain⟨d,e,f,rfl⟩:=z41 (h.row q (by simp));obtain⟨g,i,j,rfl⟩:=z41 (h.row p (by simp));exact⟨a,b,c,d,e,f,g,i,j,rfl⟩
theorem zjq{T:Tb}(h:Tab 4 T):∃a b c d e f g i j k l m n o p q,T=[[a,b,c,d],[e,f,g,i],[j,k,l,m],[n,o,p,q]]:=by
 obtain⟨r1,r2,r3,r4,rfl⟩:=z2T h.len;obtain⟨a,b,c,d,rfl⟩:=z2T (h.row r1 (by simp));obtain⟨e,f,g,i,rfl⟩:=z2T (h.row r2 (by simp));obtain⟨j,k,l,m,rfl⟩:=z2T (h.row r3 (by simp));obtain⟨n,o,p,q,rfl⟩:=z2T (h.row r4 (by simp));exact⟨a,b,c,d,e,f,g,i,j,k,l,m,n,o,p,q,rfl⟩
end Pm
set_option maxRecDepth 1000000
set_option maxHeartbeats 40000000
namespace Pm
theorem zln:one 2=[[1,0],[0,1]]:=rfl
theorem zlx:one 3=[[1,0,0],[0,1,0],[0,0,1]]:=rfl
theorem zll:one 4=[[1,0,0,0],[0,1,0,0],[0,0,1,0],[0,0,0,1]]:=rfl
theorem zgE{n:Nat}{v:List Int}(hn:n=2\/n=3\/n=4)(hv:v.length=n):mv (one n) v=v:=by
 rcases hn with rfl | rfl | rfl
 ·obtain⟨x,y,rfl⟩:=z5r hv;rw[zln];simp[mv,dot]
 ·obtain⟨x,y,z,rfl⟩:=z41 hv;rw[zlx];simp[mv,dot]
 ·obtain⟨x,y,z,u,rfl⟩:=z2T hv;rw[zll];simp[mv,dot]
end Pm
set_option maxRecDepth 1000000
set_option maxHeartbeats 40000000
namespace Pm
abbrev Sz(n:Nat):Prop:=n=2\/n=3\/n=4
theorem zbD{n:Nat}{A B:Tb}(ha:Tab n A)(hb:Tab n B):Tab n (zfJ A B):=by
 have l1:(xV B).length=n:=by simp[xV,hb.len]
 refine⟨by simp[zfJ,xV,hb.len],λr hr=>?_⟩;simp only[zfJ]at hr;rw[xV]at hr;obtain⟨j,_,rfl⟩:=_A.mp hr;simp[l1]
theorem zaW(n:Nat):Tab n (one n):=by
 refine⟨by simp[one],λr hr=>?_⟩;simp only[one]at hr;obtain⟨j,_,rfl⟩:=_A.mp hr;simp
open L2 (maxL minL maxL_ge maxL_mem minL_le minL_mem)
inductive Rl where | nx | le | al | tu deriving DecidableEq
structure Lot(n:Nat)(v:List Int):Prop where
 sz:Sz n
 len:v.length=n
 nn:∀x∈v,0<=x
 pos:∃x∈v,0<x
def nz(v:List Int):List Int:=v.filter λx=>decide (x≠0)
def ended(v:List Int):Bool:=decide ((nz v).length=1)
def gp(v:List Int):Nat:=v.idxOf (maxL v)
def others(v:List Int):List Int:=v.take (gp v)++[0]++v.drop (gp v+1)
def lp(v:List Int):Nat:=v.idxOf (minL (nz v))
def wu(v:List Int)(p:Nat):List Nat:=(List.range v.length).filter λi=>decide (i≠p)
def deal:Rl->List Int->Nat×List Nat
 | .nx,v=>((others v).idxOf (maxL (others v)),[gp v]) | .le,v=>(lp (others v),[gp v]) | .al,v=>(lp v,wu v (lp v)) | .tu,v=>(0,if v.getD 0 0=0 then [] else wu v 0)
def zX(v:List Int)(d:Nat×List Nat):List Int:=(List.range v.length).map λi=>if i∈d.2 then v.getD i 0 / v.getD d.1 0 else 0
def rot{α:Type}(xs:List α):List α:=xs.drop 1++xs.take 1
def mvd{α:Type}(r:Rl)(xs:List α):List α:=if r=.tu then rot xs else xs
def left(v qs:List Int)(b:Nat):List Int:=List.zipWith (λx q=>x-q*v.getD b 0) v qs
def stp(r:Rl)(v:List Int):List Int:=mvd r (left v (zX v (deal r v)) (deal r v).1)
def yT(b:Nat)(line:List Int)(q:Int):List Int:=line.take b++[line.getD b 0+q]++line.drop (b+1)
def z5l(r:Rl)(b:Nat)(qs:List Int):Tb:=List.zipWith (λline q=>mvd r (yT b line q)) (one qs.length) qs
def zbn(r:Rl)(v:List Int):Tb:=z5l r (deal r v).1 (zX v (deal r v))
@[simp] theorem zf0:dot [] []=0:=id rfl
@[simp] theorem dot_cons (a b:Int) (r v:List Int):dot (a::r) (b::v)=a*b+dot r v:=rfl
theorem wj:∀{r c r' c':List Int},r.length=c.length->dot (r++r') (c++c')=dot r c+dot r' c'
 | [],[],_,_,_=>by simp | a::r,b::c,r',c',h=>by
  have:=wj (r:=r) (c:=c) (r':=r') (c':=c') (by simpa using h);simp only[_bo,dot_cons,this];omega | [],_::_,_,_,h=>by simp at h | _::_,[],_,_,h=>by simp at h
def zaK(z:Int)(c q:List Int):List Int:=List.zipWith (λx q=>x-q*z) c q
theorem z5x (z:Int):∀{r c q:List Int},r.length=c.length->c.length=q.length->dot r (zaK z c q)=dot r c-dot r q*z
 | [],[],[],_,_=>by simp[zaK] | a::r,b::c,p::q,h1,h2=>by
  have:=z5x z (r:=r) (c:=c) (q:=q) (by simpa using h1) (by simpa using h2);simp only[zaK]at this;simp only[zaK,List.zipWith_cons_cons,dot_cons,this];grind | [],_::_,_,h,_=>by simp at h | _::_,[],_,h,_=>by simp at h | _,[],_::_,_,h=>by simp at h | _,_::_,[],_,h=>by simp at h
theorem z77:∀{r c:List Int},(∀x∈r,0<=x)->(∀x∈c,0<=x)->0<=dot r c
 | [],[],_,_=>by simp | [],_::_,_,_=>by simp[dot] | _::_,[],_,_=>by simp[dot] | a::r,b::c,h1,h2=>by
  have i:=z77 (r:=r) (c:=c) (λx hx=>h1 x (by simp[hx])) λx hx=>h2 x (by simp[hx]);have j:=Int.mul_nonneg (h1 a (by simp)) (h2 b (by simp));simp only[dot_cons];omega
theorem zfr{r c:List Int}(h:r.length=c.length):dot (rot r) (rot c)=dot r c:=by match r,c,h with
 | [],[],_=>rfl | a::r,b::c,h=>
  show dot (r++[a]) (c++[b])=_;rw[wj (by simpa using h)];simp only[dot_cons,zf0];omega | [],_::_,h=>simp at h | _::_,[],h=>simp at h
theorem zg8{r c:List Int}(l:Rl)(h:r.length=c.length):dot (mvd l r) (mvd l c)=dot r c:=by
 unfold mvd;split;·exact zfr h
 ·rfl
theorem zaq{α:Type}{x:α}{xs:List α}:x∈rot xs ↔ x∈xs:=by cases xs with
 | nil=>simp[rot] | cons a xs=>simp[rot,or_comm]
theorem jZ{α:Type}{x:α}{xs:List α}{l:Rl}:x∈mvd l xs ↔ x∈xs:=by
 unfold mvd;split;·exact zaq
 ·rfl
theorem zer{α:Type}(xs:List α):(rot xs).length=xs.length:=by cases xs<;>simp[rot]
theorem z3v{α:Type}{l:Rl}(xs:List α):(mvd l xs).length=xs.length:=by
 unfold mvd;split;·exact zer xs
 ·rfl
structure Qs(v:List Int)(b:Nat)(qs:List Int):Prop where
 lt:b<v.length
 len:qs.length=v.length
 zero:qs[b]? = some 0
 nn:∀q∈qs,0<=q
 fit:∀i,0<=v.getD i 0-qs.getD i 0*v.getD b 0
 pos:(∀q∈qs,q=0)\/0<v.getD b 0
theorem z09{α:Type}{v:List α}{b:Nat}(h:b<v.length):∃v1 z v2,v=v1++z::v2/\v1.length=b:= ⟨v.take b,v[b],v.drop (b+1),by rw[<- _ax h,_cj],by simp;omega⟩
def z2U(b:Nat)(qs r:List Int):List Int:=r.set b (r.getD b 0+dot r qs)
theorem getD_at{α:Type}{v1 v2:List α}{z d:α}{b:Nat}(h:v1.length=b):(v1++z::v2).getD b d=z:=by
 subst h;simp[List.getD]
theorem Qs.split {v qs r:List Int} {b:Nat} (h:Qs v b qs) (hr:r.length=v.length):∃v1 z v2 q1 q2 r1 y r2,v=v1++z::v2/\qs=q1++0::q2/\r=r1++y::r2/\v1.length=b/\q1.length=b/\r1.length=b/\q2.length=v2.length/\r2.length=v2.length:=by
 obtain⟨v1,z,v2,rfl,e1⟩:=z09 h.lt;obtain⟨q1,p,q2,rfl,e2⟩:=z09 (v:=qs) (b:=b) (by rw[h.len];exact h.lt);obtain⟨r1,y,r2,rfl,e3⟩:=z09 (v:=r) (b:=b) (by rw[hr];exact h.lt);have hz:=h.zero;rw[<- e2]at hz;simp at hz;subst hz;have l1:=h.len;simp at l1 hr;exact⟨v1,z,v2,q1,q2,r1,y,r2,rfl,rfl,rfl,e1,e2,e3,by omega,by omega⟩
theorem z1X {v1 v2 q1 q2:List Int} {z:Int} {b:Nat} (h1:v1.length=b) (h2:q1.length=b):left (v1++z::v2) (q1++0::q2) b=zaK z v1 q1++z::zaK z v2 q2:=by
 unfold left zaK;rw[getD_at h1,List.zipWith_append (by omega)];simp
theorem zem{v qs r:List Int}{b:Nat}(h:Qs v b qs)(hr:r.length=v.length):dot (z2U b qs r) (left v qs b)=dot r v:=by
 obtain⟨v1,z,v2,q1,q2,r1,y,r2,rfl,rfl,rfl,e1,e2,e3,e4,e5⟩:=h.split hr;rw[z1X e1 e2];unfold z2U;rw[getD_at e3,<- e3,_bD _ _ (by omega)];simp only[Nat.sub_self,_a8];rw[wj (by simp[zaK];omega),wj (by omega),wj (by omega)];simp only[dot_cons];rw[z5x z (by omega) (by omega),z5x z (by omega) (by omega)];grind
theorem xL{v qs:List Int}{b:Nat}(h:qs.length=v.length):(left v qs b).length=v.length:=by simp[left,h]
theorem z9y{v qs:List Int}{b:Nat}(h:Qs v b qs):∀x∈left v qs b,0<=x:=λx hx=>by
 obtain⟨i,hi,e⟩:=_z.mp hx;have:=h.fit i;have hl:=xL (b:=b) h.len;have h1:i<v.length:=by omega
 have h2:i<qs.length:=by rw[h.len];exact h1
 simp only[List.getD,_e h1,_e h2,_au]at this;rw[<- e];simpa[left,List.getD] using this
structure zj7(B:Int)(r c:List Int)(x:Int):Prop where
 len:r.length=c.length
 nn:∀y∈r,0<=y/\y<=B
 dot:dot r c=x
theorem zcv {B x:Int} {v qs r:List Int} {b:Nat} (l:Rl) (h:Qs v b qs) (hx:x<=B) (I:zj7 B r v x):zj7 B (mvd l (z2U b qs r)) (mvd l (left v qs b)) x:=by
 have hd:=zem h I.len;have rl:(z2U b qs r).length=r.length:=by simp[z2U]
 have ll:=xL (b:=b) h.len;refine⟨by rw[z3v,z3v,rl,ll,I.len],λy hy=>?_,by rw[zg8 l (by rw[rl,ll,I.len]),hd,I.dot]⟩;rw[jZ]at hy;have ln:=z9y h;obtain⟨v1,z,v2,q1,q2,r1,u,r2,rfl,rfl,rfl,e1,e2,e3,e4,e5⟩:=h.split I.len;rw[z1X e1 e2]at hd ln;have ev:(r1++u::r2).set b ((r1++u::r2).getD b 0+Pm.dot (r1++u::r2) (q1++0::q2))=r1++(u+Pm.dot (r1++u::r2) (q1++0::q2))::r2:=by
  rw[getD_at e3,<- e3,_bD _ _ (by omega)];simp only[Nat.sub_self,_a8]
 unfold z2U at hy hd;rw[ev]at hy hd;have dq:0<=Pm.dot (r1++u::r2) (q1++0::q2):=z77 (λx hx=>(I.nn x hx).1) h.nn;have hu:=I.nn u (by simp);rcases _M.mp hy with hy | hy;·exact I.nn y (by simp[hy])
 ·rcases _p.mp hy with rfl | hy
  ·refine⟨by omega,?_⟩;rcases h.pos with h0 | h0
   ·have dz:Pm.dot (r1++u::r2) (q1++0::q2)=0:=by
     have:∀(r q:List Int),(∀x∈q,x=0)->Pm.dot r q=0:=by
      intro r;induction r with
      | nil=>intro q _;cases q<;>simp[Pm.dot] | cons a r ih=>
       intro q hq;cases q with
       | nil=>simp[Pm.dot] | cons p q=>rw[dot_cons,ih q (λx hx=>hq x (by simp[hx])),hq p (by simp)];simp
     exact this _ _ h0
    omega
   ·rw[getD_at e1]at h0;rw[wj (by simp[zaK];omega),dot_cons]at hd;have n1:0<=Pm.dot r1 (zaK z v1 q1):=z77 (λx hx=>(I.nn x (by simp[hx])).1) λx hx=>ln x (by simp[hx]);have n2:0<=Pm.dot r2 (zaK z v2 q2):=z77 (λx hx=>(I.nn x (by simp[hx])).1) λx hx=>ln x (by simp[hx]);have dt:=I.dot;generalize Pm.dot (r1++u::r2) (q1++0::q2)=dd at *;have m1:(u+dd)*1<=(u+dd)*z:=_cE (by omega) (by omega);omega
  ·exact I.nn y (by simp[hy])
theorem z1E{α:Type}(xs:List α):mvd .tu xs=rot xs:=by simp[mvd]
theorem z0F{α:Type}{r:Rl}(h:r≠.tu)(xs:List α):mvd r xs=xs:=by simp[mvd,h]
theorem ziG{n b:Nat}{qs:List Int}(P:Tb->Prop)(r:Rl)(hn:Sz n)(hq:qs.length=n)(hb:b<n)(hz:qs[b]? = some 0) (p20:∀q,P [[1,0],[q,1]])(p21:∀q,P [[1,q],[0,1]]) (p30:∀p q,P [[1,0,0],[p,1,0],[q,0,1]])(p31:∀p q,P [[1,p,0],[0,1,0],[0,q,1]])(p32:∀p q,P [[1,0,p],[0,1,q],[0,0,1]]) (p40:∀p q s,P [[1,0,0,0],[p,1,0,0],[q,0,1,0],[s,0,0,1]])(p41:∀p q s,P [[1,p,0,0],[0,1,0,0],[0,q,1,0],[0,s,0,1]]) (p42:∀p q s,P [[1,0,p,0],[0,1,q,0],[0,0,1,0],[0,0,s,1]])(p43:∀p q s,P [[1,0,0,p],[0,1,0,q],[0,0,1,s],[0,0,0,1]]) (t:∀T,Tab n T->P T->P (T.map rot)):P (z5l r b qs):=by
 have main:P (List.zipWith (λline q=>yT b line q) (one qs.length) qs):=by
  rcases hn with rfl | rfl | rfl
  ·obtain⟨x,y,rfl⟩:=z5r hq;match b,hb with
   | 0,_=>simp at hz;subst hz;simpa[one,yT,List.range,List.range.loop] using p20 y | 1,_=>simp at hz;subst hz;simpa[one,yT,List.range,List.range.loop] using p21 x
  ·obtain⟨x,y,z,rfl⟩:=z41 hq;match b,hb with
   | 0,_=>simp at hz;subst hz;simpa[one,yT,List.range,List.range.loop] using p30 y z | 1,_=>simp at hz;subst hz;simpa[one,yT,List.range,List.range.loop] using p31 x z | 2,_=>simp at hz;subst hz;simpa[one,yT,List.range,List.range.loop] using p32 x y
  ·obtain⟨x,y,z,w,rfl⟩:=z2T hq;match b,hb with
   | 0,_=>simp at hz;subst hz;simpa[one,yT,List.range,List.range.loop] using p40 y z w | 1,_=>simp at hz;subst hz;simpa[one,yT,List.range,List.range.loop] using p41 x z w | 2,_=>simp at hz;subst hz;simpa[one,yT,List.range,List.range.loop] using p42 x y w | 3,_=>simp at hz;subst hz;simpa[one,yT,List.range,List.range.loop] using p43 x y z
 have tb:Tab n (List.zipWith (λline q=>yT b line q) (one qs.length) qs):=by
  refine⟨by simp[one,hq],λl hl=>?_⟩;obtain⟨i,hi,rfl⟩:=_z.mp hl;simp at hi;simp[yT,one];omega
 by_cases hr:r=.tu
 ·subst hr;have:z5l .tu b qs=(List.zipWith (λline q=>yT b line q) (one qs.length) qs).map rot:=by
   unfold z5l;rw[_bq];simp only[z1E]
  rw[this];exact t _ tb main
 ·have:z5l r b qs=List.zipWith (λline q=>yT b line q) (one qs.length) qs:=by
   unfold z5l;simp only[z0F hr]
  rw[this];exact main
theorem zcZ{n b:Nat}{qs:List Int}(r:Rl)(hn:Sz n)(hq:qs.length=n)(hb:b<n):Tab n (z5l r b qs):=by
 refine⟨by simp[z5l,one,hq],λl hl=>?_⟩;obtain⟨i,hi,rfl⟩:=_z.mp hl;simp[z5l]at hi;simp[z5l,z3v,yT,one];omega
def z5j(T:Tb)(r:List Int):List Int:=(xV T).map (dot r)
theorem z3K{n:Nat}{A T:Tb}(hn:Sz n)(ha:Tab n A)(ht:Tab n T):zfJ A T=A.map (z5j T):=by
 rcases hn with rfl | rfl | rfl
 ·obtain⟨a,b,c,d,rfl⟩:=ziU ha;obtain⟨e,f,g,h,rfl⟩:=ziU ht;rfl
 ·obtain⟨a1,a2,a3,a4,a5,a6,a7,a8,a9,rfl⟩:=zjO ha;obtain⟨b1,b2,b3,b4,b5,b6,b7,b8,b9,rfl⟩:=zjO ht;rfl
 ·obtain⟨a1,a2,a3,a4,a5,a6,a7,a8,a9,a10,a11,a12,a13,a14,a15,a16,rfl⟩:=zjq ha;obtain⟨b1,b2,b3,b4,b5,b6,b7,b8,b9,b10,b11,b12,b13,b14,b15,b16,rfl⟩:=zjq ht;rfl
theorem zco{n:Nat}{T:Tb}{r:List Int}(hn:Sz n)(h:Tab n T):z5j (T.map rot) r=rot (z5j T r):=by
 rcases hn with rfl | rfl | rfl
 ·obtain⟨a,b,c,d,rfl⟩:=ziU h;rfl
 ·obtain⟨a,b,c,d,e,f,g,i,j,rfl⟩:=zjO h;rfl
 ·obtain⟨a,b,c,d,e,f,g,i,j,k,l,m,n,o,p,q,rfl⟩:=zjq h;rfl
theorem zba{n b:Nat}{qs row:List Int}(r:Rl)(hn:Sz n)(hq:qs.length=n)(hb:b<n)(hz:qs[b]? = some 0)(hr:row.length=n):z5j (z5l r b qs) row=mvd r (z2U b qs row):=by
 have main:z5j (List.zipWith (λline q=>yT b line q) (one qs.length) qs) row=z2U b qs row:=by
  rcases hn with rfl | rfl | rfl
  ·obtain⟨x,y,rfl⟩:=z5r hq;obtain⟨x',y',rfl⟩:=z5r hr;match b,hb with
   | 0,_=>simp at hz;subst hz;simp[one,yT,List.range,List.range.loop,z5j,xV,z2U,dot] | 1,_=>simp at hz;subst hz;simp[one,yT,List.range,List.range.loop,z5j,xV,z2U,dot];try omega
  ·obtain⟨x,y,z,rfl⟩:=z41 hq;obtain⟨x',y',z',rfl⟩:=z41 hr;match b,hb with
   | 0,_=>simp at hz;subst hz;simp[one,yT,List.range,List.range.loop,z5j,xV,z2U,dot]<;>try omega | 1,_=>simp at hz;subst hz;simp[one,yT,List.range,List.range.loop,z5j,xV,z2U,dot]<;>try omega | 2,_=>simp at hz;subst hz;simp[one,yT,List.range,List.range.loop,z5j,xV,z2U,dot]<;>try omega
  ·obtain⟨x,y,z,w,rfl⟩:=z2T hq;obtain⟨x',y',z',w',rfl⟩:=z2T hr;match b,hb with
   | 0,_=>simp at hz;subst hz;simp[one,yT,List.range,List.range.loop,z5j,xV,z2U,dot]<;>try omega | 1,_=>simp at hz;subst hz;simp[one,yT,List.range,List.range.loop,z5j,xV,z2U,dot]<;>try omega | 2,_=>simp at hz;subst hz;simp[one,yT,List.range,List.range.loop,z5j,xV,z2U,dot]<;>try omega | 3,_=>simp at hz;subst hz;simp[one,yT,List.range,List.range.loop,z5j,xV,z2U,dot]<;>try omega
 have tb:Tab n (List.zipWith (λline q=>yT b line q) (one qs.length) qs):=by
  refine⟨by simp[one,hq],λl hl=>?_⟩;obtain⟨i,hi,rfl⟩:=_z.mp hl;simp at hi;simp[yT,one];omega
 by_cases h:r=.tu
 ·subst h;have e:z5l .tu b qs=(List.zipWith (λline q=>yT b line q) (one qs.length) qs).map rot:=by
   unfold z5l;rw[_bq];simp only[z1E]
  rw[e,zco hn tb,main,z1E]
 ·have e:z5l r b qs=List.zipWith (λline q=>yT b line q) (one qs.length) qs:=by
   unfold z5l;simp only[z0F h]
  rw[e,main,z0F h]
theorem ua{v:List Int}{x:Int}:x∈nz v ↔ x∈v/\x≠0:=by simp[nz]
theorem getD_mem{v:List Int}{i:Nat}(h:i<v.length):v.getD i 0∈v:=by simp[List.getD,_e h]
theorem xQ{v:List Int}(h:∀x∈v,0<=x)(i:Nat):0<=v.getD i 0:=by
 by_cases hi:i<v.length;·exact h _ (getD_mem hi)
 ·simp[List.getD,_aD (_c2.mp hi)]
theorem z9M{v:List Int}{x:Int}(h:x∈v):v.idxOf x<v.length/\v.getD (v.idxOf x) 0=x:=by
 have hl:=List.idxOf_lt_length_of_mem h;exact⟨hl,by simp[List.getD,_e hl,List.getElem_idxOf hl]⟩
theorem Lot.ne{n:Nat}{v:List Int}(h:Lot n v):v≠[]:=λz=>by
 obtain⟨x,hx,_⟩:=h.pos;rw[z]at hx;simp at hx
theorem Lot.nzne{n:Nat}{v:List Int}(h:Lot n v):nz v≠[]:=λz=>by
 obtain⟨x,hx,h0⟩:=h.pos;have:x∈nz v:=ua.mpr ⟨hx,by omega⟩;rw[z]at this;simp at this
theorem z9D{v:List Int}(h:nz v≠[]):lp v<v.length/\v.getD (lp v) 0=minL (nz v)/\minL (nz v)≠0:=by
 have m:=ua.mp (minL_mem h);have:=z9M m.1;exact⟨this.1,this.2,m.2⟩
theorem z7U{v:List Int}(h:v≠[]):gp v<v.length/\v.getD (gp v) 0=maxL v:=z9M (maxL_mem h)
theorem others_eq{v:List Int}(h:v≠[]):others v=v.set (gp v) 0:=by
 have:=(z7U h).1;unfold others;rw[List.set_eq_take_append_cons_drop,_f this];simp
theorem qR{v:List Int}(h:v≠[])(i:Nat):(others v).getD i 0=if i=gp v then 0 else v.getD i 0:=by
 have hg:=(z7U h).1;rw[others_eq h];by_cases e:i=gp v
 ·subst e;simp[List.getD,hg]
 ·simp[List.getD,e,_L (_a4 e)]
theorem wl{v:List Int}(h:v≠[]):(others v).length=v.length:=by rw[others_eq h];simp
theorem zas:∀{v:List Int}{p:Nat},(nz v).length≠1->v.getD p 0≠0->∃j,j≠p/\j<v.length/\v.getD j 0≠0:=by
 intro v p he hp;have hpl:p<v.length:=by
  apply _O;intro z;exact hp (by simp[List.getD,_aD (_c2.mp z)])
 apply _O;intro hn;apply he;obtain⟨v1,z,v2,rfl,e1⟩:=z09 hpl;rw[getD_at e1]at hp;have f1:∀x∈v1,x=0:=λx hx=>by
  obtain⟨j,hj,rfl⟩:=_z.mp hx;apply _O;intro z0;exact hn ⟨j,by omega,by simp;omega,by simpa[List.getD,_r hj,_e hj] using z0⟩
 have f2:∀x∈v2,x=0:=λx hx=>by
  obtain⟨j,hj,rfl⟩:=_z.mp hx;apply _O;intro z0;refine hn ⟨v1.length+1+j,by omega,by simp;omega,?_⟩;have:(v1++z::v2)[v1.length+1+j]? = some v2[j]:=by rw[_aj (by omega),show v1.length+1+j-v1.length=j+1 by omega,_o,_e hj]
  rw[List.getD,this];simpa using z0
 have g1:v1.filter (λx=>decide (x≠0))=[]:=List.filter_eq_nil_iff.mpr λx hx=>by simp[f1 x hx]
 have g2:v2.filter (λx=>decide (x≠0))=[]:=List.filter_eq_nil_iff.mpr λx hx=>by simp[f2 x hx]
 simp only[nz,_c3,_dD,g1,g2];simp[hp]
theorem z2d{v:List Int}(he:ended v=false):(nz v).length≠1:=by simpa[ended] using he
structure Dl(v:List Int)(b:Nat)(dv:List Nat):Prop where
 lt:b<v.length
 nb:b∉dv
 pos:dv=[]\/0<v.getD b 0
theorem vk{v:List Int}{p i:Nat}:i∈wu v p ↔ i<v.length/\i≠p:=by simp[wu]
theorem z5o{n:Nat}{v:List Int}(h:Lot n v){b:Nat}(hb:b<v.length)(h0:(others v).getD b 0≠0):Dl v b [gp v]/\0<v.getD b 0/\v.getD b 0<=v.getD (gp v) 0:=by
 have hg:=z7U h.ne;rw[qR h.ne]at h0;have ne:b≠gp v:=λe=>by rw[_f e]at h0;exact h0 rfl
 rw[_i ne]at h0;have p0:0<v.getD b 0:=by have:=xQ h.nn b;omega
 refine⟨⟨hb,by simpa using ne,.inr p0⟩,p0,?_⟩;rw[hg.2];exact maxL_ge _ (getD_mem hb)
theorem z0n {n:Nat} {v:List Int} (h:Lot n v) (he:ended v=false):nz (others v)≠[]:=by
 have hg:=z7U h.ne;have mx:0<maxL v:=by
  obtain⟨x,hx,h0⟩:=h.pos;have:=maxL_ge (xs:=v) x hx;omega
 obtain⟨j,h1,h2,h3⟩:=zas (p:=gp v) (z2d he) (by rw[hg.2];omega);intro z;have:v.getD j 0∈nz (others v):=ua.mpr ⟨by
  have:=getD_mem (v:=others v) (i:=j) (by rw[wl h.ne];exact h2);rw[qR h.ne,_i h1]at this;exact this,h3⟩;rw[z]at this;simp at this
theorem wT{n:Nat}{v:List Int}(r:Rl)(h:Lot n v)(he:ended v=false):Dl v (deal r v).1 (deal r v).2:=by cases r with
 | nx=>
  have ne:others v≠[]:=λz=>by
   have:=wl h.ne;rw[z]at this;exact h.ne (_bp.mp this.symm)
  have a:=z9M (maxL_mem ne);have nn:=z0n h he;refine (z5o h (by rw[<- wl h.ne];exact a.1) ?_).1;show (others v).getD ((others v).idxOf (maxL (others v))) 0≠0;rw[a.2];have m:=ua.mp (minL_mem nn);have m1:=maxL_ge _ m.1;have m2:0<=minL (nz (others v)):=by
   obtain⟨i,hi,e⟩:=_z.mp m.1;have:=qR h.ne i;have e2:(others v).getD i 0=minL (nz (others v)):=by simp[List.getD,_e hi,e]
   rw[e2]at this;rw[this];split;·omega
   ·exact xQ h.nn i
  omega | le=>
  have a:=z9D (z0n h he);refine (z5o h (by rw[<- wl h.ne];exact a.1) ?_).1;show (others v).getD (lp (others v)) 0≠0;rw[a.2.1];exact a.2.2 | al=>
  have a:=z9D h.nzne;refine⟨a.1,by simp[deal,vk],.inr ?_⟩;show 0<v.getD (lp v) 0;have:=xQ h.nn (lp v);have b:=a.2.1;have c:=a.2.2;omega | tu=>
  have l0:0<v.length:=by have:=h.sz;rw[h.len];omega
  refine⟨l0,?_,?_⟩
  ·show 0∉(if v.getD 0 0=0 then [] else wu v 0);split<;>simp[vk]
  ·show (if v.getD 0 0=0 then [] else wu v 0)=[]\/0<v.getD 0 0;split;·exact .inl rfl
   ·have:=xQ h.nn 0;exact .inr (by omega)
theorem xy(v:List Int)(d:Nat×List Nat):(zX v d).length=v.length:=by simp[zX]
theorem z85(v:List Int)(d:Nat×List Nat)(i:Nat):(zX v d).getD i 0=if i<v.length/\i∈d.2 then v.getD i 0 / v.getD d.1 0 else 0:=by
 unfold zX;by_cases hi:i<v.length;·simp[List.getD,hi]
 ·simp[List.getD,hi]
theorem wK{v:List Int}{d:Nat×List Nat}(i:Nat):v.getD i 0-(zX v d).getD i 0*v.getD d.1 0=if i<v.length/\i∈d.2 then v.getD i 0 % v.getD d.1 0 else v.getD i 0:=by
 rw[z85];split
 ·have:=_ck (v.getD i 0) (v.getD d.1 0);have e:=Int.mul_comm (v.getD i 0 / v.getD d.1 0) (v.getD d.1 0);omega
 ·omega
theorem zap{v:List Int}{d:Nat×List Nat}(hv:∀x∈v,0<=x)(h:Dl v d.1 d.2):Qs v d.1 (zX v d):=by
 refine⟨h.lt,xy _ _,?_,λq hq=>?_,λi=>?_,?_⟩;·simp[zX,h.lt,h.nb]
 ·obtain⟨i,hi,rfl⟩:=_z.mp hq;simp only[zX,List.getElem_map,List.getElem_range];split;·exact Int.ediv_nonneg (xQ hv _) (xQ hv _)
  ·omega
 ·rw[wK];split
  ·rename_i hi;rcases h.pos with z | z;·rw[z]at hi;simp at hi
   ·exact _a3 _ (by omega)
  ·exact xQ hv i
 ·rcases h.pos with z | z
  ·refine .inl λq hq=>?_;obtain⟨i,hi,rfl⟩:=_z.mp hq;simp[zX,z]
  ·exact .inr z
def bl(n:Nat):Nat:=if n=0 then 0 else bl (n / 2)+1
termination_by n
decreasing_by omega
theorem z5q:bl 0=0:=by rw[bl];simp
theorem z6O{n:Nat}(h:n≠0):bl n=bl (n / 2)+1:=by rw[bl,_i h]
theorem z9C:∀(b a:Nat),a<=b->bl a<=bl b:=by
 intro b;induction b using Nat.strongRecOn with | ind b ih=>
  intro a h;by_cases h0:a=0;·subst h0;rw[z5q];omega
  ·rw[z6O h0,z6O (show b≠0 by omega)];have:=ih (b / 2) (by omega) (a / 2) (by omega);omega
theorem zfp{a b:Nat}(h:2*a<b):bl a<bl b:=by
 rw[z6O (show b≠0 by omega)];have:=z9C (b / 2) a (by omega);omega
theorem zgq:∀(k n:Nat),n<2 ^ k->bl n<=k
 | 0,n,h=>by simp at h;subst h;rw[z5q];omega | k+1,n,h=>by
  by_cases h0:n=0;·subst h0;rw[z5q];omega
  ·rw[z6O h0];have:=zgq k (n / 2) (by rw[_dW]at h;omega);omega
def wt(v:List Int):Nat:=(v.map λx=>bl x.toNat).sum
theorem zgC:∀{u v:List Int},u.length=v.length->(∀i,bl (u.getD i 0).toNat<=bl (v.getD i 0).toNat)->wt u<=wt v/\((∃i,bl (u.getD i 0).toNat<bl (v.getD i 0).toNat)->wt u<wt v)
 | [],[],_,_=>⟨by simp,λ⟨i,h⟩=>by simp at h⟩ | a::u,b::v,hl,h=>by
  have ih:=zgC (u:=u) (v:=v) (by simpa using hl) λi=>by simpa using h (i+1)
  have h0:bl a.toNat<=bl b.toNat:=by simpa using h 0
  simp only[wt,_j,List.sum_cons]at ih ⊢;refine⟨by omega,λ⟨i,hi⟩=>?_⟩;cases i with
  | zero=>
   have:bl a.toNat<bl b.toNat:=by simpa using hi
   omega | succ i=>
   have:=ih.2 ⟨i,by simpa using hi⟩;omega
 | [],_::_,h,_=>by simp at h | _::_,[],h,_=>by simp at h
theorem xw{v qs:List Int}{b:Nat}(h:qs.length=v.length)(i:Nat):(left v qs b).getD i 0=v.getD i 0-qs.getD i 0*v.getD b 0:=by
 unfold left;by_cases hi:i<v.length
 ·have h2:i<qs.length:=by omega
  simp[List.getD,List.getElem?_zipWith,_e hi,_e h2]
 ·have h2:¬ i<qs.length:=by omega
  simp[List.getD,List.getElem?_zipWith,_aD (_c2.mp hi),_aD (_c2.mp h2)]
theorem z2L{u v:List Int}(hl:u.length=v.length)(h:∀i,u.getD i 0=v.getD i 0):u=v:=by
 refine _a7 hl λi h1 h2=>?_;have:=h i;simpa[List.getD,_e h1,_e h2] using this
theorem zcO{a b:Int}(h0:0<b)(h:b<=a):2*(a % b)<a:=by
 have h1:=_ck a b;have h2:=_bc a h0;have h3:=_a3 a (show b≠0 by omega);have h4:1<=a / b:=by
  have:=Int.ediv_le_ediv h0 h;rwa [Int.ediv_self (by omega)]at this
 have h5:b*1<=b*(a / b):=_cE h4 (by omega);omega
theorem z8P{a b:Int}(ha:0<=a)(h0:0<b):a % b<=a:=by
 have h1:=_ck a b;have h2:0<=a / b:=Int.ediv_nonneg ha (by omega);have h3:0<=b*(a / b):=Int.mul_nonneg (by omega) h2;omega
theorem zfN {v:List Int} {d:Nat×List Nat} (hv:∀x∈v,0<=x) (h:Dl v d.1 d.2):wt (left v (zX v d) d.1)<=wt v/\((∃i,i<v.length/\i∈d.2/\v.getD d.1 0<=v.getD i 0)->wt (left v (zX v d) d.1)<wt v):=by
 have hl:=xy v d;have key:∀i,(left v (zX v d) d.1).getD i 0=if i<v.length/\i∈d.2 then v.getD i 0 % v.getD d.1 0 else v.getD i 0:=λi=>by rw[xw hl,wK]
 have p:∀i,i<v.length/\i∈d.2->0<v.getD d.1 0:=λi hi=>by
  rcases h.pos with z | z;·rw[z]at hi;simp at hi
  ·exact z
 have w:=zgC (u:=left v (zX v d) d.1) (v:=v) (xL hl) λi=>by
  rw[key];split
  ·rename_i hi;have:=z8P (xQ hv i) (p i hi);exact z9C _ _ (by omega)
  ·exact _h _
 refine⟨w.1,λ⟨i,h1,h2,h3⟩=>w.2 ⟨i,?_⟩⟩;rw[key,_f ⟨h1,h2⟩];have h0:=p i ⟨h1,h2⟩;have:=zcO h0 h3;have:=_a3 (v.getD i 0) (show v.getD d.1 0≠0 by omega);exact zfp (by omega)
theorem zdI(v:List Int):wt (rot v)=wt v:=by cases v with
 | nil=>rfl | cons a v=>simp[rot,wt];omega
theorem z7R{a b:List Int}(h:∀x,x∈a ↔ x∈b)(ha:a≠[]):minL a=minL b:=by
 have hb:b≠[]:=λz=>by
  have:=(h _).mp (minL_mem ha);rw[z]at this;simp at this
 have h1:=minL_le (xs:=b) _ ((h _).mp (minL_mem ha));have h2:=minL_le (xs:=a) _ ((h _).mpr (minL_mem hb));omega
theorem zhr{v:List Int}(h:nz v≠[])(h0:v.getD 0 0≠minL (nz v)):lp (rot v)<lp v:=by cases v with
 | nil=>simp[nz]at h | cons a t=>
  have e:minL (nz (rot (a::t)))=minL (nz (a::t)):=(z7R (λx=>by rw[ua,ua,zaq]) h).symm;have m:=(ua.mp (minL_mem h)).1;have ha:a≠minL (nz (a::t)):=by simpa using h0
  unfold lp;rw[e];generalize minL (nz (a::t))=m' at *;have mt:m'∈t:=(_p.mp m).resolve_left λz=>ha z.symm;show List.idxOf m' (t++[a])<_;rw[List.idxOf_append,_f mt,List.idxOf_cons];rw[show (a==m')=false from by simpa using ha];simp
def mu(r:Rl)(v:List Int):Nat:=5*wt v+(if r=.tu then lp v else 0)
theorem Lot.step{n:Nat}{v:List Int}(r:Rl)(h:Lot n v)(he:ended v=false):Lot n (stp r v):=by
 have dl:=wT r h he;have q:=zap h.nn dl;refine⟨h.sz,by rw[stp,z3v,xL q.len,h.len],λx hx=>z9y q x (jZ.mp hx),?_⟩;have fin:∀x∈left v (zX v (deal r v)) (deal r v).1,0<x->∃x∈stp r v,0<x:=λx hx h0=>⟨x,jZ.mpr hx,h0⟩;rcases dl.pos with z | z
 ·obtain⟨x,hx,h0⟩:=h.pos;refine fin x ?_ h0;have:left v (zX v (deal r v)) (deal r v).1=v:=z2L (xL q.len) λi=>by rw[xw q.len,wK,z];simp
  rw[this];exact hx
 ·refine fin (v.getD (deal r v).1 0) ?_ z;have:(left v (zX v (deal r v)) (deal r v).1).getD (deal r v).1 0=v.getD (deal r v).1 0:=by rw[xw q.len,wK,_i (λw=>dl.nb w.2)]
  rw[<- this];exact getD_mem (by rw[xL q.len];exact dl.lt)
theorem zgn{n:Nat}{v:List Int}(h:Lot n v):lp v<4:=by
 have:=(z9D h.nzne).1;have:=h.len;have:=h.sz;omega
theorem z2w{n:Nat}{v:List Int}(r:Rl)(h:Lot n v)(he:ended v=false):mu r (stp r v)<mu r v:=by
 have dl:=wT r h he;have w:=zfN h.nn dl;have mn:∀j,j<v.length->v.getD j 0≠0->minL (nz v)<=v.getD j 0:=λj hj h0=>minL_le _ (ua.mpr ⟨getD_mem hj,h0⟩);have ge:∀{b:Nat},b<v.length->(others v).getD b 0≠0->v.getD b 0<=v.getD (gp v) 0:=λhb h0=>(z5o h hb h0).2.2;cases r with
 | nx=>
  have g:=z7U h.ne;have:wt (stp .nx v)<wt v:=by
   rw[stp,z0F (by decide)];refine w.2 ⟨gp v,g.1,by simp[deal],?_⟩;rw[g.2];exact maxL_ge _ (getD_mem dl.lt)
  simp only[mu];rw[_i (by decide),_i (by decide)];omega | le=>
  have g:=z7U h.ne;have:wt (stp .le v)<wt v:=by
   rw[stp,z0F (by decide)];refine w.2 ⟨gp v,g.1,by simp[deal],?_⟩;rw[g.2];exact maxL_ge _ (getD_mem dl.lt)
  simp only[mu];rw[_i (by decide),_i (by decide)];omega | al=>
  have l:=z9D h.nzne;obtain⟨j,h1,h2,h3⟩:=zas (p:=lp v) (z2d he) (by rw[l.2.1];exact l.2.2);have:wt (stp .al v)<wt v:=by
   rw[stp,z0F (by decide)];refine w.2 ⟨j,h2,by simp[deal,vk,h1,h2],?_⟩;show v.getD (lp v) 0<=_;rw[l.2.1];exact mn j h2 h3
  simp only[mu];rw[_i (by decide),_i (by decide)];omega | tu=>
  simp only[mu];rw[_f trivial,_f trivial];have st:Lot n (stp .tu v):=h.step .tu he;have l4:=zgn st;have same:left v (zX v (deal .tu v)) (deal .tu v).1=v->v.getD 0 0≠minL (nz v)->5*wt (stp .tu v)+lp (stp .tu v)<5*wt v+lp v:=λe h0=>by
   have e2:stp .tu v=rot v:=by rw[stp,z1E,e]
   have:=zhr h.nzne h0;rw[e2,zdI];omega
  by_cases z:v.getD 0 0=0
  ·refine same (z2L (xL (xy _ _)) λi=>?_) λq=>?_
   ·rw[xw (xy _ _),wK];rw[show (deal .tu v).2=[] from by show (if v.getD 0 0=0 then [] else wu v 0)=[];rw[_f z]];simp
   ·exact (z9D h.nzne).2.2 (by rw[<- q,z])
  ·by_cases ex:∃i,i<v.length/\i≠0/\v.getD 0 0<=v.getD i 0
   ·obtain⟨i,h1,h2,h3⟩:=ex;have:wt (stp .tu v)<wt v:=by
     rw[stp,z1E,zdI];refine w.2 ⟨i,h1,?_,h3⟩;show i∈(if v.getD 0 0=0 then [] else wu v 0);rw[_i z];exact vk.mpr ⟨h1,h2⟩
    omega
   ·have nn0:=xQ h.nn 0;refine same (z2L (xL (xy _ _)) λi=>?_) λq=>?_
    ·rw[xw (xy _ _),wK];split
     ·rename_i hi;have i0:i≠0:=by
       have:=hi.2;simp only[deal,_i z,vk]at this;exact this.2
      have:¬ v.getD 0 0<=v.getD i 0:=λw=>ex ⟨i,hi.1,i0,w⟩;show v.getD i 0 % v.getD 0 0=_;exact Int.emod_eq_of_lt (xQ h.nn i) (by omega)
     ·rfl
    ·obtain⟨j,h1,h2,h3⟩:=zas (p:=0) (z2d he) z;have:=mn j h2 h3;exact ex ⟨j,h2,h1,by omega⟩
inductive Run(r:Rl):List Int->List (List Int)->Prop | done {v:List Int}:ended v=true->Run r v [v] | step {v:List Int}{ls:List (List Int)}:ended v=false->Run r (stp r v) ls->Run r v (v::ls)
theorem zdP{n:Nat}{r:Rl}:∀(k:Nat)(v:List Int),Lot n v->mu r v<=k->∃ls,Run r v ls/\ls.length<=k+1
 | k,v,h,hk=>by cases he:ended v with
  | true=>exact⟨[v],.done he,by simp⟩ | false=>
   have lt:=z2w r h he;match k,hk with
   | 0,hk=>omega | k+1,hk=>
    obtain⟨ls,h1,h2⟩:=zdP (r:=r) k (stp r v) (h.step r he) (by omega);exact⟨v::ls,.step he h1,by simp;omega⟩
theorem zhP{m:Nat}:∀{v:List Int},(∀x∈v,x.toNat<2 ^ m)->wt v<=v.length*m
 | [],_=>by simp[wt] | a::v,h=>by
  have ih:=zhP (v:=v) λx hx=>h x (by simp[hx]);have:=zgq m a.toNat (h a (by simp));simp only[wt,_j,List.sum_cons,_n,Nat.succ_mul]at ih ⊢;omega
theorem zgm{n m:Nat}{v:List Int}{r:Rl}(h:Lot n v)(hb:∀x∈v,x.toNat<2 ^ m):mu r v<=20*m+3:=by
 have w:=zhP hb;have l:=zgn h;have:v.length*m<=4*m:=Nat.mul_le_mul_right m (by have:=h.len;have:=h.sz;omega);unfold mu;split<;>omega
def cg(a b:Int):Int:=(Int.gcd a b:Int)
def z5h(v:List Int):Int:=v.foldl cg 0
theorem z06:∀(v:List Int)(a:Int),0<=a->0<=v.foldl cg a/\(v.foldl cg a ∣ a/\∀x∈v,v.foldl cg a ∣ x)/\∀d,d ∣ a->(∀x∈v,d ∣ x)->d ∣ v.foldl cg a
 | [],a,h=>⟨h,⟨Int.dvd_refl _,by simp⟩,λd hd _=>hd⟩ | x::v,a,h=>by
  have ih:=z06 v (cg a x) (by simp[cg]);have g1:cg a x ∣ a:=Int.gcd_dvd_left ..;have g2:cg a x ∣ x:=Int.gcd_dvd_right ..;refine⟨ih.1,⟨_ds ih.2.1.1 g1,λy hy=>?_⟩,λd hd hx=>?_⟩
  ·rcases _p.mp hy with rfl | hy;·exact _ds ih.2.1.1 g2
   ·exact ih.2.1.2 y hy
  ·exact ih.2.2 d (Int.dvd_coe_gcd hd (hx x (by simp))) λy hy=>hx y (by simp[hy])
theorem z5Z(v:List Int):0<=z5h v:=(z06 v 0 (by omega)).1
theorem z37{v:List Int}:∀x∈v,z5h v ∣ x:=(z06 v 0 (by omega)).2.1.2
theorem z2O{v:List Int}{d:Int}(h:∀x∈v,d ∣ x):d ∣ z5h v:=(z06 v 0 (by omega)).2.2 d (_dX d) h
theorem ze3{u v:List Int}(h:∀d,(∀x∈u,d ∣ x) ↔ (∀x∈v,d ∣ x)):z5h u=z5h v:= Int.dvd_antisymm (z5Z u) (z5Z v) (z2O ((h _).mp z37)) (z2O ((h _).mpr z37))
theorem z7j{v:List Int}{P:Int->Prop}(h0:P 0):(∀x∈v,P x) ↔ ∀i,P (v.getD i 0):=by
 constructor
 ·intro h i;by_cases hi:i<v.length;·exact h _ (getD_mem hi)
  ·simp[List.getD,_aD (_c2.mp hi),h0]
 ·intro h x hx;obtain⟨i,hi,rfl⟩:=_z.mp hx;have:=h i;simpa[List.getD,_e hi] using this
theorem z8E{n:Nat}{v:List Int}(r:Rl)(h:Lot n v)(he:ended v=false):z5h (stp r v)=z5h v:=by
 have dl:=wT r h he;have q:=zap h.nn dl;refine ze3 λd=>?_;have e:(∀x∈stp r v,d ∣ x) ↔ ∀x∈left v (zX v (deal r v)) (deal r v).1,d ∣ x:=by
  constructor;·intro h x hx;exact h x (jZ.mpr hx)
  ·intro h x hx;exact h x (jZ.mp hx)
 rw[e,z7j (_dX d),z7j (_dX d)];have lb:(left v (zX v (deal r v)) (deal r v).1).getD (deal r v).1 0=v.getD (deal r v).1 0:=by rw[xw q.len,wK,_i (λw=>dl.nb w.2)]
 constructor
 ·intro hd i;have h1:=hd i;have h2:=hd (deal r v).1;rw[lb]at h2;rw[xw q.len]at h1;have h3:d ∣ (zX v (deal r v)).getD i 0*v.getD (deal r v).1 0:=_ds h2 (Int.dvd_mul_left ..);have:=Int.dvd_add h1 h3;rwa [Int.sub_add_cancel]at this
 ·intro hd i;rw[xw q.len];exact Int.dvd_sub (hd i) (_ds (hd (deal r v).1) (Int.dvd_mul_left ..))
theorem zdT:∀v:List Int,v.sum=(nz v).sum
 | []=>rfl | a::v=>by
  have:=zdT v;by_cases h:a=0;·subst h;simp[nz]at this ⊢;exact this
  ·simp[nz,h]at this ⊢;exact this
theorem z52{n:Nat}{v:List Int}(h:Lot n v)(he:ended v=true):v.sum=z5h v:=by
 have l1:(nz v).length=1:=by simpa[ended] using he
 obtain⟨x,ex⟩:∃x,nz v=[x]:=by match hz:nz v,l1 with | [x],_=>exact⟨x,rfl⟩
 have xm:=ua.mp (show x∈nz v by rw[ex];simp);have x0:=h.nn x xm.1;have e1:v.sum=x:=by rw[zdT,ex];simp
 rw[e1];refine Int.dvd_antisymm x0 (z5Z v) (z2O λy hy=>?_) (z37 x xm.1);by_cases y0:y=0;·subst y0;exact _dX _
 ·have:y∈nz v:=ua.mpr ⟨hy,y0⟩;rw[ex]at this;simp at this;subst this;exact Int.dvd_refl _
structure PI(n:Nat)(B:Int)(P:Tb)(c x:List Int):Prop where
 tab:Tab n P
 nn:∀row∈P,∀y∈row,0<=y/\y<=B
 eq:mv P c=x
theorem zbO{n:Nat}{v:List Int}(r:Rl)(h:Lot n v)(he:ended v=false):Tab n (zbn r v):=by
 have dl:=wT r h he;exact zcZ r h.sz (by rw[xy,h.len]) (by rw[<- h.len];exact dl.lt)
theorem PI.step{n:Nat}{B:Int}{P:Tb}{c x:List Int}(r:Rl)(I:PI n B P c x)(hx:∀y∈x,y<=B)(h:Lot n c)(he:ended c=false):PI n B (zfJ P (zbn r c)) (stp r c) x:=by
 have dl:=wT r h he;have q:=zap h.nn dl;have tt:=zbO r h he;have hq:(zX c (deal r c)).length=n:=by rw[xy,h.len]
 have hb:(deal r c).1<n:=by rw[<- h.len];exact dl.lt
 have rows:∀row∈P,z5j (zbn r c) row=mvd r (z2U (deal r c).1 (zX c (deal r c)) row):=λrow hr=>zba r h.sz hq hb q.zero (I.tab.row row hr);have ri:∀row∈P,zj7 B (mvd r (z2U (deal r c).1 (zX c (deal r c)) row)) (stp r c) (dot row c):=λrow hr=>by
  have:dot row c∈x:=by rw[<- I.eq];exact _A.mpr ⟨row,hr,rfl⟩
  exact zcv r q (hx _ this) ⟨by rw[I.tab.row row hr,h.len],I.nn row hr,rfl⟩
 refine⟨zbD I.tab tt,λrow hr y hy=>?_,?_⟩
 ·rw[z3K h.sz I.tab tt]at hr;obtain⟨w,hw,rfl⟩:=_A.mp hr;rw[rows w hw]at hy;exact (ri w hw).nn y hy
 ·rw[z3K h.sz I.tab tt,<- I.eq];unfold mv;rw[_ai];refine _ay λw hw=>?_;show dot (z5j (zbn r c) w) (stp r c)=dot w c;rw[rows w hw];exact (ri w hw).dot
theorem zhL(n:Nat):∀row∈one n,∀y∈row,0<=y/\y<=1:=λrow hr y hy=>by
 simp only[one]at hr;obtain⟨i,_,rfl⟩:=_A.mp hr;obtain⟨j,_,rfl⟩:=_A.mp hy;split<;>omega
theorem PI.start{n:Nat}{B:Int}{v:List Int}(h:Lot n v)(hx:∀y∈v,y<=B):PI n B (one n) v v:=by
 have b1:1<=B:=by
  obtain⟨y,hy,h0⟩:=h.pos;have:=hx y hy;omega
 refine⟨zaW n,λrow hr y hy=>?_,zgE h.sz h.len⟩;have:=zhL n row hr y hy;omega
theorem ze2{n:Nat}{v:List Int}{B:Int}(r:Rl)(h:Lot n v)(he:ended v=false)(hb:∀y∈v,y<=B):∀y∈stp r v,y<=B:=λy hy=>by
 have dl:=wT r h he;have q:=zap h.nn dl;have hy:=jZ.mp hy;obtain⟨i,hi,rfl⟩:=_z.mp hy;have e:(left v (zX v (deal r v)) (deal r v).1)[i]=(left v (zX v (deal r v)) (deal r v).1).getD i 0:=by simp[List.getD,_e hi]
 have hi':i<v.length:=by rw[<- xL (b:=(deal r v).1) q.len];exact hi
 have b:=hb _ (getD_mem hi');rw[e,xw q.len,wK];split
 ·rename_i w;rcases dl.pos with z | z;·rw[z]at w;simp at w
  ·have:=z8P (xQ h.nn i) z;omega
 ·exact b
def scl(k:Int)(v:List Int):List Int:=v.map λx=>x*k
section
variable {k:Int}(hk:0<k)
include hk
theorem zeZ{x y:Int}:x*k=y*k ↔ x=y:=⟨λh=>Int.eq_of_mul_eq_mul_right (by omega) h,λh=>by rw[h]⟩
theorem zg0{x:Int}{v:List Int}:x*k∈scl k v ↔ x∈v:=by
 unfold scl;rw[_A];exact⟨λ⟨y,hy,e⟩=>by rw[<- (zeZ hk).mp e];exact hy,λh=>⟨x,h,rfl⟩⟩
theorem zfT(v:List Int):(scl k v).length=v.length:=by simp[scl]
end
def vR(r:Rl)(ls:List (List Int)):List Tb:=ls.dropLast.map (zbn r)
theorem Run.ne{r:Rl}{v:List Int}{ls:List (List Int)}(R:Run r v ls):ls≠[]:=by cases R<;>simp
theorem Run.tabs_cons{r:Rl}{v:List Int}{ls:List (List Int)}(h:Run r (stp r v) ls):vR r (v::ls)=zbn r v::vR r ls:=by
 obtain⟨a,t,rfl⟩:=List.exists_cons_of_ne_nil h.ne;simp[vR]
def zjL(n:Nat)(ts:List Tb):Tb:=ts.foldl zfJ (one n)
theorem Run.prod{n:Nat}{r:Rl}{B:Int}{v x:List Int}{ls:List (List Int)}{P:Tb}(h:Lot n v)(R:Run r v ls)(I:PI n B P v x)(hx:∀y∈x,y<=B):∃z,ls.getLast? = some z/\ended z=true/\Lot n z/\z5h z=z5h v/\PI n B ((vR r ls).foldl zfJ P) z x:=by induction R generalizing P with
 | done e=>exact⟨_,by simp,e,h,rfl,by simpa[vR] using I⟩ | step e R ih=>
  obtain⟨z,h1,h2,h3,h4,h5⟩:=ih (h.step r e) (I.step r hx h e);refine⟨z,?_,h2,h3,by rw[h4,z8E r h e],?_⟩;·rw[List.getLast?_cons,h1];rfl
  ·rw[R.tabs_cons];exact h5
theorem Run.whole{n:Nat}{r:Rl}{B:Int}{v:List Int}{ls:List (List Int)}(h:Lot n v)(R:Run r v ls)(hx:∀y∈v,y<=B):∃z,ls.getLast? = some z/\ended z=true/\Lot n z/\z5h z=z5h v/\PI n B (zjL n (vR r ls)) z v:=R.prod h (PI.start h hx) hx
open Dd (lexN)
theorem z02:∀a:List Int,lexN a a=false
 | []=>rfl | x::a=>by simp[lexN,z02 a]
theorem z0f:∀{a b:List Int},a≠b->lexN b a=!lexN a b
 | [],[],h=>absurd rfl h | [],_::_,_=>rfl | _::_,[],_=>rfl | x::a,y::b,h=>by
  by_cases e:x=y
  ·subst e;have:a≠b:=λz=>h (by rw[z]);simp only[lexN,_N];exact z0f this
  ·have e':¬ y=x:=λz=>e z.symm;simp only[lexN,e,e',_P];by_cases l:x<y;·simp[l];omega
   ·simp[l];omega
theorem z2S:∀{a b c:List Int},lexN a b=true->lexN b c=true->lexN a c=true
 | [],[],_,h,_=>by simp[lexN]at h | [],_::_,[],_,h=>by simp[lexN]at h | [],_::_,_::_,_,_=>rfl | _::_,[],_,h,_=>by simp[lexN]at h | _::_,_::_,[],_,h=>by simp[lexN]at h | x::a,y::b,z::c,h1,h2=>by
  simp only[lexN]at h1 h2 ⊢;by_cases e1:x=y
  ·subst e1;by_cases e2:x=z
   ·subst e2;simp only[_N]at h1 h2 ⊢;exact z2S h1 h2
   ·simp only[e2,_P]at h2 ⊢;exact h2
  ·simp only[e1,_P,_aC]at h1;by_cases e2:y=z
   ·subst e2;simp only[e1,_P,_aC];exact h1
   ·simp only[e2,_P,_aC]at h2;have e3:¬ x=z:=by omega
    simp only[e3,_P,_aC];omega
theorem z0p:∀{a b:List Int}{x y:Int},a.length=b.length->(lexN a b=true\/(a=b/\x<y))->lexN (a++[x]) (b++[y])=true
 | [],[],x,y,_,h=>by
  rcases h with h | ⟨_,h⟩;·simp[lexN]at h
  ·have:¬ x=y:=by omega
   simp[lexN,this,h] | [],_::_,_,_,h,_=>by simp at h | _::_,[],_,_,h,_=>by simp at h | u::a,w::b,x,y,hl,h=>by
  simp only[_bo,lexN];by_cases e:u=w
  ·subst e;simp only[_N];refine z0p (by simpa using hl) ?_;rcases h with h | ⟨h1,h2⟩;·exact .inl (by simpa[lexN] using h)
   ·exact .inr ⟨by simpa using h1,h2⟩
  ·simp only[e,_P,_aC];rcases h with h | ⟨h1,h2⟩;·simpa[lexN,e] using h
   ·simp at h1;exact absurd h1.1 e
abbrev Up(L:List (List Int)):Prop:=L.Pairwise λa b=>lexN a b=true
theorem Up.nodup{L:List (List Int)}(h:Up L):L.Nodup:=h.imp λ{a b} q z=>by rw[z,z02]at q;cases q
theorem z9o{α:Type}{a b:List α}{i:Nat}{d:α}(h:i<a.length):(a++b).getD i d=a.getD i d:=by simp[_k,_r h]
theorem zb4{α:Type}{a b:List α}{i:Nat}{d:α}(h:a.length<=i):(a++b).getD i d=b.getD (i-a.length) d:=by simp[_k,_aj h]
def zbB(F:List (List Int))(c:List Int):List (List Int):=F.flatMap λa=>c.map λg=>a++[g]
def uE(cs:List (List Int)):List (List Int):=cs.foldl zbB [[]]
theorem uO(cs:List (List Int))(c:List Int):uE (cs++[c])=zbB (uE cs) c:=by simp[uE]
theorem snoc_ind{α:Type}{P:List α->Prop}(h0:P [])(h1:∀l x,P l->P (l++[x]))(l:List α):P l:=by
 have:∀n (l:List α),l.length=n->P l:=by
  intro n;induction n with
  | zero=>intro l hl;rw[_bp.mp hl];exact h0 | succ n ih=>
   intro l hl;have ne:l≠[]:=λz=>by rw[z]at hl;simp at hl
   rw[<- _by ne];exact h1 _ _ (ih _ (by simp[hl]))
 exact this _ l rfl
theorem z4m(cs:List (List Int)):∀v:List Int,v∈uE cs ↔ v.length=cs.length/\∀i,i<cs.length->v.getD i 0∈cs.getD i []:=by
 refine snoc_ind (P:=λcs=>∀v:List Int,v∈uE cs ↔ v.length=cs.length/\∀i,i<cs.length->v.getD i 0∈cs.getD i []) ?_ ?_ cs
 ·intro v;simp[uE]
 ·intro cs c ih v;rw[uO];simp only[zbB,List.mem_flatMap,_A];constructor
  ·rintro⟨a,ha,g,hg,rfl⟩;obtain⟨l,h⟩:=(ih a).mp ha;refine⟨by simp[l],λi hi=>?_⟩;by_cases q:i<cs.length
   ·have:=h i q;rw[z9o (a:=a) (by omega),z9o q];exact this
   ·have e:i=cs.length:=by simp at hi;omega
    subst e;rw[zb4 (a:=a) (by omega),zb4 (a:=cs) (by omega)];simp[l,hg]
  ·rintro⟨l,h⟩;have ne:v≠[]:=λz=>by rw[z]at l;simp at l
   refine⟨v.dropLast,(ih _).mpr ⟨by simp[l],λi hi=>?_⟩,v.getLast ne,?_,_by ne⟩
   ·have:=h i (by simp;omega);rw[z9o hi]at this;have e:v.dropLast.getD i 0=v.getD i 0:=by
     have l':v.length=cs.length+1:=by simpa using l
     have h1:i<v.length:=by omega
     simp[_k,List.getElem?_dropLast,l',hi,_e h1]
    rw[e];exact this
   ·have:=h cs.length (by simp);rw[zb4 (_h _)]at this;have e:v.getD cs.length 0=v.getLast ne:=by
     rw[List.getLast_eq_getElem];simp at l;simp[_k,l]
    rw[e]at this;simpa using this
theorem zbM(cs:List (List Int)):(∀c∈cs,c.Pairwise (· < ·))->Up (uE cs):=by
 refine snoc_ind (P:=λcs=>(∀c∈cs,c.Pairwise (· < ·))->Up (uE cs)) (λ_=>by simp[uE,Up]) ?_ cs;intro cs c ih h;have ih:=ih λc hc=>h c (by simp[hc]);have hc:=h c (by simp);have hl:=λv hv=>((z4m cs v).mp hv).1;rw[uO];unfold zbB Up;rw[List.pairwise_flatMap];refine⟨λa ha=>?_,?_⟩
 ·rw[_aZ];exact hc.imp λ{x y} q=>z0p rfl (.inr ⟨rfl,q⟩)
 ·refine List.Pairwise.imp_of_mem (λ{a b} ha hb q=>?_) ih;intro x hx y hy;obtain⟨g,_,rfl⟩:=_A.mp hx;obtain⟨k,_,rfl⟩:=_A.mp hy;exact z0p (by rw[hl a ha,hl b hb]) (.inl q)
theorem zaX(cs:List (List Int)){k:Nat}:(∀c∈cs,c.length<=k)->(uE cs).length<=k ^ cs.length:=by
 refine snoc_ind (P:=λcs=>(∀c∈cs,c.length<=k)->(uE cs).length<=k ^ cs.length) (λ_=>by simp[uE]) ?_ cs;intro cs c ih h;have ih:=ih λc hc=>h c (by simp[hc]);have hc:=h c (by simp);rw[uO];have e:(zbB (uE cs) c).length=(uE cs).length*c.length:=by
  unfold zbB;rw[List.length_flatMap];simp;induction (uE cs) with
  | nil=>simp | cons a l ih=>simp[ih,Nat.add_mul,Nat.add_comm]
 rw[e,_al,List.length_singleton,_dW];exact Nat.mul_le_mul ih hc
end Pm
namespace Pg
open L2 Dd Pm
abbrev iL(ns:List Int):List D:=ns.map D.int
theorem zkB{i:Int}{m:Nat}(h:i.natAbs<2 ^ m)(hm:m<=2000):i.natAbs<BIG:=_v h (_aX (by decide) (by omega))
theorem zgz{a b:Int}{m k:Nat}(s:Sto)(ha:a.natAbs<2 ^ m)(hm:m<=2000)(hb:b.natAbs<2 ^ k)(hk:k<=2000):wI (.int a) (.int b) s=.ok (.int (a*b)) s:=by rw[zdd,_f ⟨zkB ha hm,zkB hb hk⟩]
theorem z6V{a b:Int}(s:Sto)(hb:0<b):za8 (.int a) (.int b) s=.ok (.int (a % b)) s:=by rw[zgx,_f hb]
theorem zbW{xs:List D}(s:Sto)(h:∀x∈xs,x=.bl true):zhm [.lst xs] s=.ok (.bl true) s:=by
 have e:xs=(xs.map λ_=>true).map D.bl:=by
  rw[_ai];conv=>lhs;rw[<- List.map_id xs]
  exact _ay λx hx=>h x hx
 have b:bools xs=some (xs.map λ_=>true):=by
  conv=>lhs;rw[e]
  exact z92 _
 simp[zhm,zY,b]
theorem z7a{ns:List Int}(s:Sto)(h:ns≠[]):va [.tup (iL ns)] s=.ok (.int (maxL ns)) s:=by cases ns with
 | nil=>exact absurd rfl h | cons n ns=>simp only[va,zY,_J,vm]
theorem zhg{ns:List Int}(s:Sto)(h:ns≠[]):z2u [.tup (iL ns)] s=.ok (.int (minL ns)) s:=by cases ns with
 | nil=>exact absurd rfl h | cons n ns=>simp only[z2u,zY,_J,vm]
theorem zcd{ns:List Int}{l:Nat}{s:Sto}(h:ns≠[])(e:s[l]? = some (iL ns)):va [.loc l] s=.ok (.int (maxL ns)) s:=by cases ns with
 | nil=>exact absurd rfl h | cons n ns=>simp only[va,zY,e,_J,vm]
theorem z20(i:Int)(s:Sto):yc [.int i] s=.ok (.bl true) s:=by simp[yc,Mof,qE,zE,gIs,tyD,isT]
theorem z8a(xs:List D)(s:Sto)(h:2<=xs.length/\xs.length<=4):wd [.tup xs] s=.ok (.bl true) s:=by
 have h1:(2:Int)<=xs.length:=by omega
 have h2:(xs.length:Int)<=4:=by omega
 simp[wd,Mof,z0x,zE,gIs,tyD,isT,vW,zY,h1,h2]
theorem z3U (ns:List Int) (s:Sto) (h:ns.length<=1000):xj [.tup (iL ns),.int ns.length] s=.ok (.bl true) s:=by
 simp[xj,Mof,je,zE,gIs,tyD,isT,vW,zY];rw[z47 (λ_=>D.bl true) (iL ns) [] (by intro x hx;obtain⟨n,_,rfl⟩:=_A.mp hx;simp[z20]) (by simp[cap];omega)];simp only[Rb,_bw];rw[zbW s (by intro x hx;obtain⟨_,_,rfl⟩:=_A.mp hx;rfl)];simp
abbrev rD(r:List Int):D:=.tup (iL r)
abbrev tD(T:Tb):D:=.tup (T.map rD)
theorem zhw{xs:List D}{j:Nat}{d:D}(s:Sto)(h:xs[j]? = some d):dIx (.tup xs) (.int j) s=.ok d s:=by
 have hj:j<xs.length:=(_d.mp h).1;have e:ixN xs.length (j:Int)=some j:=by
  unfold ixN;rw[_f (by omega),_f (by omega)];simp
 simp only[dIx,zY,atI,e,_J,h]
theorem z9a{n:Nat}{ar:FA}{ρ:Ev}{s s1:Sto}(hn:n<=1000)(h:ar ρ s=.ok [.int n] s1):z5g ar ρ s=.ok (ye n,[]) s1:=by
 have c62:-(2 ^ 62)<=(n:Int)/\(n:Int)<2 ^ 62:=by omega
 rw[zdD,h,Rb];simp only;rw[_f c62,_aA]
theorem z5B(xs:List D)(i:Nat)(s:Sto):dSl (.tup xs) none (some (i:Int)) s=.ok (.tup (xs.take i)) s:=by
 have e:Dd.cutD xs none (some (i:Int))=xs.take i:=by
  unfold Dd.cutD;rw[HT.z6U,HT.z9P];simp[List.take_eq_take_min]
 simp only[dSl,e]
theorem z3p(xs:List D)(i:Nat)(s:Sto):dSl (.tup xs) (some (i:Int)) none s=.ok (.tup (xs.drop i)) s:=by
 have e:Dd.cutD xs (some (i:Int)) none=xs.drop i:=by
  unfold Dd.cutD;rw[HT.z6U,HT.z9P];by_cases h:i<=xs.length
  ·rw[Nat.min_eq_left h];exact _b9 (by simp)
  ·rw[Nat.min_eq_right (by omega)];simp[List.drop_of_length_le (show xs.length<=i by omega)]
 simp only[dSl,e]
theorem z6W {r:List Int} {j:Nat} (s:Sto) (h:j<r.length):dIx (rD r) (.int (j:Int)) s=.ok (.int (r.getD j 0)) s:=zhw (xs:=iL r) (j:=j) (d:=.int (r.getD j 0)) s (by simp[_S,_e h,List.getD])
theorem ug{α:Type}{all:List D}{s:Sto}{body:D->Sto->R (Option D)}(g f:α->D)(p:α->Bool):∀(l:List α)(acc:List D),(∀a∈l,body (g a) s=.ok (if p a=true then some (f a) else none) s)->acc.length+l.length<=cap->xA [] all body (l.map g) acc s=.ok (acc++(l.filter p).map f) s
 | [],acc,_,_=>by simp[xA,okG] | x::xs,acc,hb,hl=>by
  have og:okG [] all s:=by intro p hp;simp at hp
  rw[_j,xA,_f og,hb x (by simp)];cases hp:p x with
  | true=>
   have ih:=ug (all:=all) g f p xs (acc++[f x]) (λy hy=>hb y (by simp[hy])) (by simp at hl ⊢;omega);have hc:acc.length<cap:=by simp at hl;omega
   simp[hc,ih,hp] | false=>
   have ih:=ug (all:=all) g f p xs acc (λy hy=>hb y (by simp[hy])) (by simp at hl ⊢;omega);simp[ih,hp]
theorem z31{α:Type}{fi:FI}{mp:List (Option Nat)}{fg:FG}{ft:FT}{fe:FE}{ρ:Ev}{s:Sto}(g f:α->D)(p:α->Bool)(ev:α->Ev)(l:List α) (hi:fi ρ s=.ok (l.map g,[]) s)(hg:∀a∈l,fg (g a) (zW mp ρ) s=.ok (ev a) s)(ht:∀a∈l,ft (ev a) s=.ok (p a) s)(he:∀a∈l,p a=true->fe (ev a) s=.ok (f a) s)(hl:l.length<=cap): zK fi mp fg ft fe ρ s=.ok (.lst ((l.filter p).map f)) s:=by
 rw[jL,z15,hi,Rb];rw[ug g f p l [] (by
  intro a ha;simp only[hg a ha,ht a ha,Rb];cases hp:p a with
  | true=>simp[he a ha hp] | false=>simp) (by simpa using hl)];rfl
theorem comp_map{α:Type}{fi:FI}{mp:List (Option Nat)}{fg:FG}{fe:FE}{ρ:Ev}{s:Sto}(g f:α->D)(ev:α->Ev)(l:List α) (hi:fi ρ s=.ok (l.map g,[]) s)(hg:∀a∈l,fg (g a) (zW mp ρ) s=.ok (ev a) s)(he:∀a∈l,fe (ev a) s=.ok (f a) s)(hl:l.length<=cap): zK fi mp fg xJ fe ρ s=.ok (.lst (l.map f)) s:=by
 have:=z31 (ft:=xJ) g f (λ_=>true) ev l hi hg (λa _=>rfl) (λa ha _=>he a ha) hl;rw[show l.filter (λ_=>true)=l from List.filter_eq_self.mpr (by simp)]at this;exact this
theorem zcP{f:FE}{ρ:Ev}{s:Sto}{xs:List D}(h:f ρ s=.ok (.tup xs) s):yG f ρ s=.ok (xs,[]) s:=by simp[h]
theorem xc{f:FE}{ρ:Ev}{s:Sto}{xs:List D}(h:f ρ s=.ok (.lst xs) s):yG f ρ s=.ok (xs,[]) s:=by simp[h]
structure LotB(n m:Nat)(v:List Int):Prop extends Lot n v where bd:∀x∈v,x<2 ^ m
theorem LotB.abs{n m:Nat}{v:List Int}(h:LotB n m v):∀x∈v,x.natAbs<2 ^ m:=λx hx=>by
 have h1:=h.bd x hx;have h2:=h.nn x hx;have e:(x.natAbs:Int)=x:=_cF h2;have:(x.natAbs:Int)<((2 ^ m:Nat):Int):=by rw[e];simpa using h1
 omega
theorem LotB.toN{n m:Nat}{v:List Int}(h:LotB n m v):∀x∈v,x.toNat<2 ^ m:=λx hx=>by
 have h1:=h.abs x hx;have h2:=h.nn x hx;omega
theorem _root_.Pm.Lot.le4{n:Nat}{v:List Int}(h:Lot n v):v.length<=4/\2<=v.length:=by have:=h.len;have:=h.sz;omega
theorem zcp{n:Nat}{v:List Int}(h:Lot n v)(s:Sto):vz [rD v] s=.ok (.bl true) s:=by
 have l4:=h.le4;have h1:=z8a (iL v) s (by simp;omega);have h2:=z3U v s (by omega);have g1:=z7a s h.ne;have g2:=zhg s h.ne;have mn:0<=minL v:=h.nn _ (minL_mem h.ne);have mx:0<maxL v:=by obtain⟨x,hx,h0⟩:=h.pos;have:=maxL_ge (xs:=v) x hx;omega
 have gl:vW [rD v] s=.ok (.int v.length) s:=by simp[vW,zY]
 have key:∀d:D,wd [d] s=.ok (.bl true) s->vW [d] s=.ok (.int v.length) s->xj [d,.int v.length] s=.ok (.bl true) s->va [d] s=.ok (.int (maxL v)) s->z2u [d] s=.ok (.int (minL v)) s->vz [d] s=.ok (.bl true) s:=λd a1 a2 a3 a4 a5=>by simp[vz,Mof,z40,zE,a1,a2,a3,a4,a5,mn,mx]
 exact key _ h1 gl h2 g1 g2
theorem z1V{n:Nat}{v:List Int}(h:Lot n v)(s:Sto):yD [rD v] s=.ok .non s:=by
 have h1:=zcp h s;have key:∀d:D,vz [d] s=.ok (.bl true) s->yD [d] s=.ok .non s:=λd a1=>by simp[yD,Mof,z0N,zE,a1]
 exact key _ h1
theorem nzC{v:List Int}{f:FE}{ρ:Ev}{s:Sto}{mp:List (Option Nat)}(hf:f ρ s=.ok (rD v) s)(hl:v.length<=4):zK (yG f) [none] (wH 0) (tOf (eOp dNe (zc 0) (eC (.int 0)))) (zc 0) ρ s=.ok (.lst (iL (nz v))) s:=by
 rw[z31 D.int D.int (λx=>decide (x≠0)) (λx=>[some (.int x)]) v (zcP hf) (λa _=>by simp) (λa _=>by simp) (λa _ _=>by simp) (by simp[cap];omega)];rfl
theorem vq {n:Nat} {v:List Int} (h:Lot n v) (s:Sto):zH [rD v] s=.ok (.bl (ended v)) s:=by
 have h1:=z1V h s;have key:∀d:D,yD [d] s=.ok .non s->zK (yG (zc 0)) [none] (wH 0) (tOf (eOp dNe (zc 0) (eC (.int 0)))) (zc 0) [some d] s=.ok (.lst (iL (nz v))) s->zH [d] s=.ok (.bl (ended v)) s:=λd a1 a2=>by
  have st:zE ["lot"] [d]=[some d]:=rfl;simp only[zH,Mof,ky,st,_n,_F,_N];rw[zk (ρ':=[some d]) (s':=s) (by simp[a1])];simp only[jw,xW,xB,yI,zo,zI,z2Q,a2,Rb];simp only[vW,zY,Rb,zf2,_w];have:decide (((nz v).length:Int)=1)=ended v:=by
   unfold ended;by_cases e:(nz v).length=1;·simp[e]
   ·have:¬ ((nz v).length:Int)=1:=by omega
    simp[e,this]
  rw[this]
 exact key _ h1 (nzC (mp:=[]) (by simp) h.le4.1)
end Pg
namespace Pg
open L2 Dd Pm
def nmR:Rl->Str | .nx=>"next" | .le=>"least" | .al=>"all" | .tu=>"turn"
theorem z98{fo fv:FE}{ρ:Ev}{s:Sto}{v:List Int}{k:Int}(h1:fo ρ s=.ok (rD v) s)(h2:fv ρ s=.ok (.int k) s)(hk:k∈v):zcS fo fv ρ s=.ok (.int (v.idxOf k:Nat)) s:=by simp only[zgs,h1,h2,Rb,vm,_f hk]
theorem z1Y {n:Nat} {v:List Int} (h:Lot n v) (s:Sto):zq [rD v] s=.ok (.tup [.int (gp v:Nat),rD (others v)]) s:=by
 have l4:=h.le4;have g1:=z7a s h.ne;have key:∀d:D,d=rD v->zq [d] s=.ok (.tup [.int (gp v:Nat),rD (others v)]) s:=λd hd=>by
  have st:zE ["lot","at"] [d]=[some d,none]:=rfl;have gm:va [d] s=.ok (.int (maxL v)) s:=by rw[hd];exact g1
  have i1:zcS (zc 0) (zd va (za (zc 0) zi)) [some d,none] s=.ok (.int (gp v:Nat)) s:=z98 (by simp[hd]) (by simp[gm]) (maxL_mem h.ne);simp only[zq,Mof,xC,st,_n,_F,_N];rw[zk (ρ':=[some d,some (.int (gp v:Nat))]) (s':=s) (by rw[xq,yw,i1];simp)];have e1:=z5B (iL v) (gp v) s;have e2:=z3p (iL v) (gp v+1) s;rw[show (((gp v+1:Nat):Int))=(gp v:Int)+1 from rfl]at e2;simp only[xu,xW,vP,zo,zI,yz,xB,z55,vg,qJ,z2Q,_m,_o,Rb,jf,hd,e1,e2];rw[_f (by simp[cap]),Rb,z1Q,_f (by simp[cap];omega),Rb,e2,Rb,z1Q,_f (by simp[cap];omega),Rb,Rb,Rb,_f (by simp[cap])];simp[others,_cy,_bP]
 exact key _ rfl
theorem jE {v:List Int} (h:nz v≠[]) (hl:v.length<=4) (s:Sto):zP [rD v] s=.ok (.int (lp v:Nat)) s:=by
 have key:∀d:D,d=rD v->zP [d] s=.ok (.int (lp v:Nat)) s:=λd hd=>by
  have st:zE ["lot"] [d]=[some d]:=rfl;have c:=nzC (mp:=[]) (f:=zc 0) (ρ:=[some d]) (s:=s) (v:=v) (by simp[hd]) hl;have gm:z2u [.lst (iL (nz v))] s=.ok (.int (minL (nz v))) s:=by
   obtain⟨a,t,e⟩:=List.exists_cons_of_ne_nil h;rw[e];simp only[z2u,zY,_J,iL];rw[vm]
  simp only[zP,Mof,uX,st,_n,_F,_N,uw,xW];rw[z98 (v:=v) (k:=minL (nz v)) (by simp[hd]) (by rw[yI,zo,c];simp only[Rb,zI,gm]) (ua.mp (minL_mem h)).1];rfl
 exact key _ rfl
abbrev nL(l:List Nat):List D:=l.map λi=>D.int ((i:Nat):Int)
theorem z4J {v:List Int} (p:Nat) (hl:v.length<=4) (s:Sto):yZ [rD v,.int (p:Nat)] s=.ok (.lst (nL (wu v p))) s:=by
 have key:∀d:D,vW [d] s=.ok (.int v.length) s->yZ [d,.int (p:Nat)] s=.ok (.lst (nL (wu v p))) s:=λd hd=>by
  have st:zE ["lot","place"] [d,.int (p:Nat)]=[some d,some (.int (p:Nat))]:=rfl;have ir:z5g (za (zd vW (za (zc 0) zi)) zi) [some d,some (.int (p:Nat))] s=.ok ((List.range v.length).map λi=>D.int ((i:Nat):Int),[]) s:=by
   rw[z9a (n:=v.length) (s1:=s) (by omega) (by simp[hd])];rfl
  simp only[yZ,Mof,z1I,st,_n,_F,_N,z0w,xW];rw[z31 (λi:Nat=>D.int ((i:Nat):Int)) (λi:Nat=>D.int ((i:Nat):Int)) (λi=>decide (i≠p)) (λi=>[some (.int (p:Nat)),some (.int (i:Nat))]) (List.range v.length) ir (λa _=>by simp) (λa _=>by
   have:decide ((a:Int)≠(p:Nat))=decide (a≠p):=by
    by_cases e:a=p;·simp[e]
    ·have:¬ (a:Int)=(p:Nat):=by omega
     simp[e,this]
   simp only[z6j,xB,yz,_o,_m,Rb,zhb,this]) (λa _ _=>by simp) (by simp[cap];omega)];rfl
 exact key _ (by simp[vW,zY])
abbrev z0Q(d:Nat×List Nat):D:=.tup [.int d.1,.lst (nL d.2)]
theorem z8G {n:Nat} {v:List Int} (h:Lot n v) (s:Sto):xN [rD v] s=.ok (z0Q (deal .nx v)) s:=by
 have ne:others v≠[]:=λz=>by
  have:=wl h.ne;rw[z]at this;exact h.ne (_bp.mp this.symm)
 have g:=z1Y h s;have g1:=z7a (ns:=others v) s ne;have key:∀d e:D,e=rD (others v)->zq [d] s=.ok (.tup [.int (gp v:Nat),e]) s->xN [d] s=.ok (z0Q (deal .nx v)) s:=λd e he hg=>by
  have st:zE ["lot","greatest","others"] [d]=[some d,none,none]:=rfl;have gm:va [e] s=.ok (.int (maxL (others v))) s:=by rw[he];exact g1
  simp only[xN,Mof,z1N,st,_n,_F,_N];rw[zk (ρ':=[some d,some (.int (gp v:Nat)),some e]) (s':=s) (by simp[hg])];have ix:zcS (zc 2) (zd va (za (zc 2) zi)) [some d,some (.int (gp v:Nat)),some e] s=.ok (.int ((others v).idxOf (maxL (others v)):Nat)) s:=z98 (v:=others v) (by simp[he]) (by simp[gm]) (maxL_mem ne);simp only[z0T,xW,vP,zo,ix,Rb,zI,z4s,yz,_m,_o];simp[cap,deal]
 exact key _ _ rfl g
theorem z8l {n:Nat} {v:List Int} (h:Lot n v) (he:ended v=false) (s:Sto):xn [rD v] s=.ok (z0Q (deal .le v)) s:=by
 have g:=z1Y h s;have lpo:=jE (z0n h he) (by rw[wl h.ne];exact h.le4.1) s;have key:∀d e:D,zP [e] s=.ok (.int (lp (others v):Nat)) s->zq [d] s=.ok (.tup [.int (gp v:Nat),e]) s->xn [d] s=.ok (z0Q (deal .le v)) s:=λd e he hg=>by
  have st:zE ["lot","greatest","others"] [d]=[some d,none,none]:=rfl;simp only[xn,Mof,z0M,st,_n,_F,_N];rw[zk (ρ':=[some d,some (.int (gp v:Nat)),some e]) (s':=s) (by simp[hg])];simp[he,cap,deal]
 exact key _ _ lpo g
theorem zck {n:Nat} {v:List Int} (h:Lot n v) (s:Sto):wN [rD v] s=.ok (z0Q (deal .al v)) s:=by
 have lpo:=jE h.nzne h.le4.1 s;have ab:=z4J (v:=v) (lp v) h.le4.1 s;have key:∀d:D,zP [d] s=.ok (.int (lp v:Nat)) s->yZ [d,.int (lp v:Nat)] s=.ok (.lst (nL (wu v (lp v)))) s->wN [d] s=.ok (z0Q (deal .al v)) s:=λd h1 h2=>by
  have st:zE ["lot","by"] [d]=[some d,none]:=rfl;simp only[wN,Mof,z4P,st,_n,_F,_N];rw[zk (ρ':=[some d,some (.int (lp v:Nat))]) (s':=s) (by simp[h1])];simp[h2,cap,deal]
 exact key _ lpo ab
theorem z9w {n:Nat} {v:List Int} (h:Lot n v) (s:Sto):xO [rD v] s=.ok (z0Q (deal .tu v)) s:=by
 have ab:=z4J (v:=v) 0 h.le4.1 s;have i0:dIx (rD v) (.int 0) s=.ok (.int (v.getD 0 0)) s:=z6W (j:=0) s (by have:=h.le4.2;omega);have key:∀d:D,dIx d (.int 0) s=.ok (.int (v.getD 0 0)) s->yZ [d,.int 0] s=.ok (.lst (nL (wu v 0))) s->xO [d] s=.ok (z0Q (deal .tu v)) s:=λd h1 h2=>by
  have st:zE ["lot"] [d]=[some d]:=rfl;simp only[xO,Mof,z1W,st,_n,_F,_N];by_cases z:v.getD 0 0=0;·rw[zhZ (d:=z0Q (deal .tu v)) (s':=s) (by
    rw[z]at h1;have e:deal .tu v=(0,[]):=by show (0,if v.getD 0 0=0 then [] else wu v 0)=_;rw[_f z]
    rw[e];simp[h1,cap])]
  ·rw[zk (ρ':=[some d]) (s':=s) (by
    have:¬ v.getD 0 0=0:=z;generalize v.getD 0 0=y at *;simp[h1,this])];have e:deal .tu v=(0,wu v 0):=by show (0,if v.getD 0 0=0 then [] else wu v 0)=_;rw[_i z]
   rw[e];simp[h2,cap]
 exact key _ i0 ab
theorem z9r(r:Rl)(s:Sto):uc [.str (nmR r)] s=.ok (.bl true) s:=by
 have l:∀r,(xg.lookup (nmR r)).isSome=true:=λr=>by cases r<;>decide
 have l:=l r;obtain⟨y,l⟩:=_am.mp l;generalize nmR r=x at *;simp[uc,Mof,z1K,zE,gIs,tyD,isT,l]
theorem vA(r:Rl)(s:Sto):zJ [.str (nmR r)] s=.ok .non s:=by
 have l:=z9r r s;generalize nmR r=x at *;simp[zJ,Mof,kL,zE,l]
theorem z42{n:Nat}{v:List Int}(r:Rl)(h:Lot n v)(s:Sto):zt [.str (nmR r),rD v] s=.ok .non s:=by
 have h1:=vA r s;have h2:=z1V h s;have key:∀d e:D,zJ [d] s=.ok .non s->yD [e] s=.ok .non s->zt [d,e] s=.ok .non s:=λd e a1 a2=>by simp[zt,Mof,xT,zE,a1,a2]
 exact key _ _ h1 h2
theorem z0K{n:Nat}{v:List Int}(r:Rl)(h:Lot n v)(he:ended v=false)(s:Sto):yi [.str (nmR r),rD v] s=.ok .non s:=by
 have h1:=z42 r h s;have h2:=vq h s;rw[he]at h2;have key:∀d e:D,zt [d,e] s=.ok .non s->zH [e] s=.ok (.bl false) s->yi [d,e] s=.ok .non s:=λd e a1 a2=>by simp[yi,Mof,kO,zE,a1,a2]
 exact key _ _ h1 h2
def dfR:Rl->Str | .nx=>"by_next" | .le=>"by_least" | .al=>"by_all" | .tu=>"by_turn"
def MR:Rl->Mir | .nx=>xN | .le=>xn | .al=>wN | .tu=>xO
theorem zjA{n:Nat}{v:List Int}(r:Rl)(h:Lot n v)(he:ended v=false)(s:Sto):MR r [rD v] s=.ok (z0Q (deal r v)) s:=by cases r with
 | nx=>exact z8G h s | le=>exact z8l h he s | al=>exact zck h s | tu=>exact z9w h s
theorem ziQ(r:Rl):xg.lookup (nmR r)=some (dfR r):=by cases r<;>decide
theorem zlp(r:Rl):([("by_next",xN),("by_least",xn),("by_all",wN),("by_turn",xO)]:List (Str×Mir)).lookup (dfR r)=some (MR r):=by
 cases r;·rfl
 ·rfl
 ·rfl
 ·rfl
theorem zk1(i:Nat)(l:List Nat)(s:Sto):zee false (.int i) (.lst (nL l)) s=.ok (.bl (decide (i∈l))) s:=by
 have e:∀l:List Nat,qK (nL l)=some (l.map λj=>V.int ((j:Nat):Int)):=by
  intro l;induction l with
  | nil=>rfl | cons a l ih=>simp only[nL]at ih;simp[nL,qK,z1S,ih]
 have e2:∀l:List Nat,inV (.int i) (l.map λj=>V.int ((j:Nat):Int))=decide (i∈l):=by
  intro l;induction l with
  | nil=>rfl | cons a l ih=>
   simp only[inV,_j,_bn]at ih ⊢;rw[ih];by_cases q:i=a;·subst q;simp[eqV]
   ·have q':¬ (a:Int)=i:=by omega
    simp[eqV,q,q']
 simp only[zee,z1S,zY,_J,e,e2];rfl
theorem z4K(x:List D)(s:Sto):uv [.lst x] s=.ok (.tup x) s:=by simp[uv,zY]
theorem z1M {n m:Nat} {v:List Int} (r:Rl) (h:LotB n m v) (he:ended v=false) (hm:m<=1999) (s:Sto):yF [.str (nmR r),rD v] s=.ok (.tup [.int ((deal r v).1:Nat),.lst (iL (zX v (deal r v)))]) s:=by
 have dl:=wT r h.toLot he;have l4:=h.toLot.le4;have by_:=zjA r h.toLot he s;have ixs:∀i,i<v.length->dIx (rD v) (.int ((i:Nat):Int)) s=.ok (.int (v.getD i 0)) s:=λi hi=>z6W s hi;have gl:vW [rD v] s=.ok (.int v.length) s:=by simp[vW,zY]
 have key:∀d e:D,e=.str (nmR r)->MR r [d] s=.ok (z0Q (deal r v)) s->vW [d] s=.ok (.int v.length) s->(∀i,i<v.length->dIx d (.int ((i:Nat):Int)) s=.ok (.int (v.getD i 0)) s)->yF [e,d] s=.ok (.tup [.int ((deal r v).1:Nat),.lst (iL (zX v (deal r v)))]) s:=λd e he' h1 h2 h3=>by
  have st:zE ["rule","lot","deal","by","divided"] [e,d]=[some e,some d,none,none,none]:=rfl;simp only[yF,Mof,z1c,st,_n,_F,_N];have lk:=ziQ r;have lm:=zlp r;rw[zk (ρ':=[some e,some d,some (.fn (dfR r)),none,none]) (s':=s) (by
   generalize dfR r=y at *;simp[he',lk])];rw[zk (ρ':=[some e,some d,some (.fn (dfR r)),some (.int ((deal r v).1:Nat)),some (.lst (nL (deal r v).2))]) (s':=s) (by
   rw[kH,z7o,zcm];simp only[_m,_o];rw[lm];simp only[zo,zI,yz,_m,_o,Rb,h1,ze9,_b0,_a8])];have ir:z5g (za (zd vW (za (zc 1) zi)) zi) [some e,some d,some (.fn (dfR r)),some (.int ((deal r v).1:Nat)),some (.lst (nL (deal r v).2))] s=.ok ((List.range v.length).map λi=>D.int ((i:Nat):Int),[]) s:=by
   rw[z9a (n:=v.length) (s1:=s) (by omega) (by simp[h2])];rfl
  have c:=comp_map (mp:=[some 4,some 1,some 3,none]) (fg:=wH 3) (fe:=eIf (tOf (eOp (zee false) (zc 3) (zc 0))) (eOp z5V (eOp dIx (zc 1) (zc 3)) (eOp dIx (zc 1) (zc 2))) (eC (.int 0))) (λi:Nat=>D.int ((i:Nat):Int)) (λi:Nat=>D.int (if i∈(deal r v).2 then v.getD i 0 / v.getD (deal r v).1 0 else 0)) (λi=>[some (.lst (nL (deal r v).2)),some d,some (.int ((deal r v).1:Nat)),some (.int (i:Nat))]) (List.range v.length) ir (λa _=>by simp) (λi hi=>by
    have hi':i<v.length:=by simpa using hi
    have i1:=zk1 i (deal r v).2 s;have e1:=h3 i hi';have e2:=h3 _ dl.lt;simp only[zi3,z6j,xB,yz,z2Q,_m,_o,Rb,i1,e1,e2];by_cases q:i∈(deal r v).2
    ·have p0:0<v.getD (deal r v).1 0:=by
      rcases dl.pos with z | z;·rw[z]at q;simp at q
      ·exact z
     have p1:v.getD (deal r v).1 0<2 ^ 2000:=Int.lt_of_lt_of_le (h.bd _ (Pm.getD_mem dl.lt)) (by
      have:(2:Nat) ^ m<=2 ^ 2000:=_aX (by decide) (by omega);have:=Int.ofNat_le.mpr this;simpa using this);have big:(v.getD (deal r v).1 0).natAbs<BIG:=_v (h.abs _ (Pm.getD_mem dl.lt)) (_aX (by decide) (by omega));simp only[q,decide_true,_N];rw[zac,_f ⟨p0,big⟩]
    ·simp only[q,decide_false,_P];rfl) (by simp[cap];omega);simp only[kN,xW,vP,zo,c,Rb,zI,yz,_m,_o];rw[_f (by simp[cap])];simp[zX,_a0]
 exact key _ _ rfl by_ gl ixs
theorem eq_str{a b:Str}(ha:PyData.strOk a=true)(hb:PyData.strOk b=true)(s:Sto):dEq (.str a) (.str b) s=.ok (.bl (a==b)) s:=by simp[dEq,z8b,eqD,xl,PyData.eqv,SeqAt.shaped,PyData.canLay0,PyData.depth,ha,hb]
theorem zhV(r:Rl):PyData.strOk (nmR r)=true:=by cases r<;>decide +kernel
theorem zfQ(r:Rl)(s:Sto):dEq (.str (nmR r)) (.str "turn") s=.ok (.bl (decide (r=.tu))) s:=by
 rw[eq_str (zhV r) (by decide +kernel)];congr 2;cases r<;>decide +kernel
theorem za6(r:Rl)(xs:List D)(hl:xs.length<=4)(s:Sto):xP [.str (nmR r),.tup xs] s=.ok (.tup (mvd r xs)) s:=by
 have e1:=z5B xs 1 s;have e2:=z3p xs 1 s;have cp:(xs.drop 1).length+(xs.take 1).length<=cap:=by simp[cap];omega
 have key:∀d e:D,d=.str (nmR r)->e=.tup xs->xP [d,e] s=.ok (.tup (mvd r xs)) s:=λd e hd he=>by
  have st:zE ["rule","numbers"] [d,e]=[some d,some e]:=rfl;have t:tOf (eOp dEq (zc 0) (eC (.str "turn"))) [some d,some e] s=.ok (decide (r=.tu)) s:=by simp only[z6j,xB,yz,z2Q,_m,Rb,hd,zfQ]
  simp only[xP,Mof,z7z,st,_n,_F,_N,z4i,xW,zi3,t,Rb];by_cases q:r=.tu
  ·simp only[q,decide_true,_N];subst q;rw[z1E];simp only[xB,z55,yz,vg,qJ,z2Q,_m,_o,Rb,he];rw[show (1:Int)=((1:Nat):Int) from rfl,e2,Rb,e1,Rb,z1Q,_f cp];rfl
  ·simp only[q,decide_false];rw[z0F q];simp[he]
 exact key _ _ rfl rfl
theorem z39{α β:Type}(f:α->D)(g:β->D):∀(l:List α)(k:List β),z1e (l.map f) (k.map g)=(l.zip k).map λp=>D.tup [f p.1,g p.2]
 | [],_=>by simp[z1e] | _::_,[]=>by simp[z1e] | a::l,b::k=>by simp[z1e,z39 f g l k]
theorem zaV{α β:Type}(r:Rl)(f:α->β)(xs:List α):mvd r (xs.map f)=(mvd r xs).map f:=by unfold mvd rot;split<;>simp[_cy,_bP]
theorem LotB.q{n m:Nat}{v:List Int}(r:Rl)(h:LotB n m v)(he:ended v=false):Qs v (deal r v).1 (zX v (deal r v)):=zap h.nn (wT r h.toLot he)
theorem zj3{n m:Nat}{v:List Int}(r:Rl)(h:LotB n m v)(he:ended v=false):∀q∈zX v (deal r v),0<=q/\q<2 ^ m:=λq hq=>by
 have Q:=h.q r he;refine⟨Q.nn q hq,?_⟩;obtain⟨i,hi,rfl⟩:=_z.mp hq;have hi':i<v.length:=by rw[<- Q.len];exact hi
 simp only[zX,List.getElem_map,List.getElem_range];have b:=h.bd _ (Pm.getD_mem hi');have n0:=xQ h.nn i;split
 ·have:=Int.ediv_le_self (v.getD (deal r v).1 0) n0;omega
 ·omega
theorem z9R {n m:Nat} {v:List Int} (r:Rl) (h:LotB n m v) (he:ended v=false) (hm:m<=1999) (s:Sto):M_step [.str (nmR r),rD v] s=.ok (rD (stp r v)) s:=by
 have l4:=h.toLot.le4;have w:=z0K r h.toLot he s;have dv:=z1M r h he hm s;have Q:=h.q r he;have dl:=wT r h.toLot he;have ix:dIx (rD v) (.int ((deal r v).1:Nat)) s=.ok (.int (v.getD (deal r v).1 0)) s:=z6W s dl.lt;have mo:=za6 r (iL (left v (zX v (deal r v)) (deal r v).1)) (by simp[xL Q.len];omega) s;have key:∀d e:D,e=rD v->yi [d,e] s=.ok .non s->yF [d,e] s=.ok (.tup [.int ((deal r v).1:Nat),.lst (iL (zX v (deal r v)))]) s->xP [d,.tup (iL (left v (zX v (deal r v)) (deal r v).1))] s=.ok (.tup (mvd r (iL (left v (zX v (deal r v)) (deal r v).1)))) s-> M_step [d,e] s=.ok (rD (stp r v)) s:=λd e hd h1 h2 h3=>by
  have st:zE ["rule","lot","by","quotients","left"] [d,e]=[some d,some e,none,none,none]:=rfl;have ixe:dIx e (.int ((deal r v).1:Nat)) s=.ok (.int (v.getD (deal r v).1 0)) s:=by rw[hd];exact ix
  simp only[M_step,Mof,zal,st,_n,_F,_N];rw[zk (ρ':=[some d,some e,none,none,none]) (s':=s) (by simp[h1])];rw[zk (ρ':=[some d,some e,some (.int ((deal r v).1:Nat)),some (.lst (iL (zX v (deal r v)))),none]) (s':=s) (by simp[h2])];have ir:zdO (za (zc 1) (za (zc 3) zi)) [some d,some e,some (.int ((deal r v).1:Nat)),some (.lst (iL (zX v (deal r v)))),none] s=.ok ((v.zip (zX v (deal r v))).map λp=>D.tup [.int p.1,.int p.2],[]) s:=by simp only[z9v,zo,zI,yz,_m,_o,Rb,hd,zdz,z39,_aQ]
  have c:=comp_map (mp:=[some 1,some 2,none,none]) (fg:=xI 2 3) (fe:=eOp zbj (zc 2) (eOp wI (zc 3) (eOp dIx (zc 0) (zc 1)))) (λp:Int×Int=>D.tup [.int p.1,.int p.2]) (λp:Int×Int=>D.int (p.1-p.2*v.getD (deal r v).1 0)) (λp=>[some e,some (.int ((deal r v).1:Nat)),some (.int p.1),some (.int p.2)]) _ ir (λp _=>by simp) (λp hp=>by
    have hq:=zj3 r h he p.2 (_bT hp).2;have ab:p.2.natAbs<2 ^ m:=by
     have e1:(p.2.natAbs:Int)=p.2:=_cF hq.1;have:(p.2.natAbs:Int)<((2 ^ m:Nat):Int):=by rw[e1];simpa using hq.2
     omega
    have mu:=zgz (a:=p.2) (b:=v.getD (deal r v).1 0) s ab (by omega) (h.abs _ (Pm.getD_mem dl.lt)) (by omega);simp only[xB,yz,_m,_o,Rb,ixe,mu,z6B]) (by simp[cap];omega);have el:(v.zip (zX v (deal r v))).map (λp:Int×Int=>D.int (p.1-p.2*v.getD (deal r v).1 0))=iL (left v (zX v (deal r v)) (deal r v).1):=by
   unfold left;show _=List.map D.int _;rw[List.zip,_bq,_bq]
  rw[el]at c;rw[zk (ρ':=[some d,some e,some (.int ((deal r v).1:Nat)),some (.lst (iL (zX v (deal r v)))),some (.tup (iL (left v (zX v (deal r v)) (deal r v).1)))]) (s':=s) (by
   rw[z7B,yw,yI,zo,c];simp only[Rb,zI,z4K,_b0,_a8])];simp only[z78,xW,yI,zo,zI,yz,_m,_o,Rb,h3];rw[zaV];rfl
 exact key _ _ rfl w dv mo
theorem wx{M:Mir}{f:FE}{ρ:Ev}{s:Sto}{x:D}(h:f ρ s=.ok x s):zd M (za f zi) ρ s=M [x] s:=by simp only[yI,zo,zI,h,Rb]
theorem call2{M:Mir}{f g:FE}{ρ:Ev}{s:Sto}{x y:D}(h:f ρ s=.ok x s)(h2:g ρ s=.ok y s):zd M (za f (za g zi)) ρ s=M [x,y] s:=by simp only[yI,zo,zI,h,h2,Rb]
theorem z65{M:Mir}{f g k:FE}{ρ:Ev}{s:Sto}{x y z:D}(h:f ρ s=.ok x s)(h2:g ρ s=.ok y s)(h3:k ρ s=.ok z s):zd M (za f (za g (za k zi))) ρ s=M [x,y,z] s:=by simp only[yI,zo,zI,h,h2,h3,Rb]
theorem op2{o:D->D->Sto->R D}{f g:FE}{ρ:Ev}{s:Sto}{x y:D}(h:f ρ s=.ok x s)(h2:g ρ s=.ok y s):eOp o f g ρ s=o x y s:=by simp only[xB,h,h2,Rb]
theorem z3t {n:Nat} (hn:n<=4) (s:Sto):yU [.int n] s=.ok (tD (one n)) s:=by
 have st:zE ["size","places"] [.int n]=[some (.int n),none]:=rfl;simp only[yU,Mof,qf,st,_n,_F,_N];rw[zk (ρ':=[some (.int n),some (.lst (ye n))]) (s':=s) (by
  have hc:(0:Int)<=n/\(n:Int)<=1000:=by omega
  simp only[ur,yw,zj8,zo,zI,yz,_m,Rb,_f hc,_aA];rfl)];have inner:∀i:Nat,zK (yG (zc 0)) [some 1,none] (wH 1) xJ (eIf (tOf (eOp dEq (zc 0) (zc 1))) (eC (.int 1)) (eC (.int 0))) [some (.lst (ye n)),some (.int ((i:Nat):Int))] s=.ok (.lst (iL ((List.range n).map λj=>if i=j then 1 else 0))) s:=λi=>by
  rw[comp_map (λk:Nat=>D.int (k:Int)) (λj:Nat=>D.int (if i=j then 1 else 0)) (λj=>[some (.int i),some (.int ((j:Nat):Int))]) (List.range n) (xc (by simp[ye])) (λa _=>by simp) (λj _=>by
   by_cases q:i=j;·subst q;simp
   ·have:¬ (i:Int)=j:=by omega
    simp[q,this]) (by simp[cap];omega)];simp[_a0]
 have outer:=comp_map (fi:=yG (zc 1)) (mp:=[some 1,none]) (fg:=wH 1) (fe:=zd uv (za (zK (yG (zc 0)) [some 1,none] (wH 1) xJ (eIf (tOf (eOp dEq (zc 0) (zc 1))) (eC (.int 1)) (eC (.int 0)))) zi)) (ρ:=[some (.int n),some (.lst (ye n))]) (s:=s) (λk:Nat=>D.int (k:Int)) (λi:Nat=>rD ((List.range n).map λj=>if i=j then 1 else 0)) (λi=>[some (.lst (ye n)),some (.int ((i:Nat):Int))]) (List.range n) (xc (by simp[ye])) (λa _=>by simp) (λi _=>by
   rw[yI,zo,inner i];simp only[Rb,zI,z4K]) (by simp[cap];omega);simp only[ue,xW];rw[yI,zo,outer];simp only[Rb,zI,z4K];simp[one,_a0]
theorem z3o{x d:D}{xs:List D}{s:Sto}(h:zY s x=some (xs++[d])):dIx x (.int (-1)) s=.ok d s:=by
 have e:ixN (xs++[d]).length (-1)=some xs.length:=by
  unfold ixN;rw[_i (by omega),_f (by simp;omega)];congr 1;simp;omega
 simp only[dIx,h,atI,e,_J];simp
theorem zcg(xs:List D)(d:D):Dd.cutD (xs++[d]) none (some (-1))=xs:=by
 have e1:HT.sIx (xs++[d]).length (xs++[d]).length (some (-1))=xs.length:=by
  unfold HT.sIx;simp only;rw[_f (by omega)];simp;omega
 unfold Dd.cutD;rw[e1];simp[HT.sIx]
theorem z4Z {n m:Nat} {v:List Int} (r:Rl) (h:LotB n m v) (he:ended v=false) (hm:m<=1999) (s:Sto):yQ [.str (nmR r),rD v] s=.ok (tD (zbn r v)) s:=by
 have l4:=h.toLot.le4;have w:=z0K r h.toLot he s;have dv:=z1M r h he hm s;have Q:=h.q r he;have dl:=wT r h.toLot he;have lpl:=z3t (n:=v.length) l4.1 s;have gl:vW [rD v] s=.ok (.int v.length) s:=by simp[vW,zY]
 have mo:∀xs:List D,xs.length<=4->xP [.str (nmR r),.tup xs] s=.ok (.tup (mvd r xs)) s:=λxs hx=>za6 r xs hx s;have key:∀d e:D,vW [e] s=.ok (.int v.length) s->yi [d,e] s=.ok .non s->yF [d,e] s=.ok (.tup [.int ((deal r v).1:Nat),.lst (iL (zX v (deal r v)))]) s->(∀xs:List D,xs.length<=4->xP [d,.tup xs] s=.ok (.tup (mvd r xs)) s)-> yQ [d,e] s=.ok (tD (zbn r v)) s:=λd e h0 h1 h2 h3=>by
  have st:zE ["rule","lot","by","quotients"] [d,e]=[some d,some e,none,none]:=rfl;simp only[yQ,Mof,jx,st,_n,_F,_N];rw[zk (ρ':=[some d,some e,none,none]) (s':=s) (by simp[h1])];rw[zk (ρ':=[some d,some e,some (.int ((deal r v).1:Nat)),some (.lst (iL (zX v (deal r v))))]) (s':=s) (by simp[h2])];have ir:zdO (za (zd yU (za (zd vW (za (zc 1) zi)) zi)) (za (zc 3) zi)) [some d,some e,some (.int ((deal r v).1:Nat)),some (.lst (iL (zX v (deal r v))))] s=.ok (((one v.length).zip (zX v (deal r v))).map λp=>D.tup [rD p.1,.int p.2],[]) s:=by simp only[z9v,zo,zI,yz,yI,_m,_o,Rb,h0,lpl,zdz,z39,_aQ]
  have c:=comp_map (mp:=[some 0,some 2,none,none]) (fg:=xI 2 3) (fe:=zd xP (za (zc 0) (za (eOp wP (eOp wP (eSl (zc 2) yj (wZ (zc 1))) (kC (za (eOp wP (eOp dIx (zc 2) (zc 1)) (zc 3)) zi))) (eSl (zc 2) (wZ (eOp wP (zc 1) (eC (.int 1)))) yj)) zi))) (λp:List Int×Int=>D.tup [rD p.1,.int p.2]) (λp:List Int×Int=>rD (mvd r (yT (deal r v).1 p.1 p.2))) (λp=>[some d,some (.int ((deal r v).1:Nat)),some (rD p.1),some (.int p.2)]) _ ir (λp _=>by simp) (λp hp=>by
    have hl:p.1.length=v.length:=(zaW v.length).row p.1 (_bT hp).1;have hb:(deal r v).1<p.1.length:=by rw[hl];exact dl.lt
    have e1:=z5B (iL p.1) (deal r v).1 s;have e2:=z3p (iL p.1) ((deal r v).1+1) s;have e3:=z6W (r:=p.1) (j:=(deal r v).1) s hb;rw[show ((((deal r v).1+1:Nat):Int))=(((deal r v).1:Nat):Int)+1 from rfl]at e2;generalize (deal r v).1=b at *;have f1:eSl (zc 2) yj (wZ (zc 1)) [some d,some (.int b),some (rD p.1),some (.int p.2)] s=.ok (.tup ((iL p.1).take b)) s:=by simp only[z55,yz,vg,qJ,_m,_o,Rb];exact e1
    have f2:eSl (zc 2) (wZ (eOp wP (zc 1) (eC (.int 1)))) yj [some d,some (.int b),some (rD p.1),some (.int p.2)] s=.ok (.tup ((iL p.1).drop (b+1))) s:=by simp only[z55,xB,z2Q,jf,yz,vg,qJ,_m,_o,Rb];exact e2
    have f3:kC (za (eOp wP (eOp dIx (zc 2) (zc 1)) (zc 3)) zi) [some d,some (.int b),some (rD p.1),some (.int p.2)] s=.ok (.tup [.int (p.1.getD b 0+p.2)]) s:=by
     simp only[vP,zo,zI,xB,yz,_m,_o,Rb,e3,jf];rw[_f (by simp[cap])]
    have f4:eOp wP (eOp wP (eSl (zc 2) yj (wZ (zc 1))) (kC (za (eOp wP (eOp dIx (zc 2) (zc 1)) (zc 3)) zi))) (eSl (zc 2) (wZ (eOp wP (zc 1) (eC (.int 1)))) yj) [some d,some (.int b),some (rD p.1),some (.int p.2)] s=.ok (.tup (iL (yT b p.1 p.2))) s:=by
     rw[xB,xB,f1,Rb,f3,Rb,z1Q,_f (by simp[cap];omega),Rb,f2,Rb,z1Q,_f (by simp[cap];omega)];simp[yT,_cy,_bP]
    rw[call2 (x:=d) (by simp) f4,h3 _ (by simp[yT];omega),zaV]) (by simp[cap,one];omega);simp only[qq,xW];rw[yI,zo,c];simp only[Rb,zI,z4K];unfold zbn z5l;rw[xy];simp only[tD];rw[_bq,List.zip,_bq]
 exact key _ _ gl w dv mo
theorem _root_.Pg.LotB.step{n m:Nat}{v:List Int}(r:Rl)(h:LotB n m v)(he:ended v=false):LotB n m (stp r v):=by
 refine⟨h.toLot.step r he,λx hx=>?_⟩;have:=ze2 (B:=2 ^ m-1) r h.toLot he (λy hy=>by have:=h.bd y hy;omega) x hx;omega
theorem zbE {n m:Nat} {r:Rl} {d e:D} (hd:d=.str (nmR r)) (hm:m<=1999) (s:Sto) {c:List Int} {ls:List (List Int)} (Rn:Run r c ls):∀(pre:List (List Int)),LotB n m c->pre.length+ls.length<=50000-> wv (z3D (tOf (zd zH (za (eOp dIx (zc 2) (z5k (eC (.int 1)))) zi)))) z2E (ls.length+1) [some d,some e,some (.loc s.length)] (s++[(pre++[c]).map rD])=.ok (.nx [some d,some e,some (.loc s.length)]) (s++[(pre++ls).map rD]):=by
 have tst:∀(pre:List (List Int)) (c:List Int),LotB n m c->z3D (tOf (zd zH (za (eOp dIx (zc 2) (z5k (eC (.int 1)))) zi))) [some d,some e,some (.loc s.length)] (s++[(pre++[c]).map rD])=.ok (!ended c) (s++[(pre++[c]).map rD]):=λpre c h=>by
  have ix:=z3o (x:=.loc s.length) (d:=rD c) (xs:=pre.map rD) (s:=s++[(pre++[c]).map rD]) (by simp[zY]);have hE:=vq h.toLot (s++[(pre++[c]).map rD]);generalize (s++[(pre++[c]).map rD])=S at *;simp only[z7D,z6j,yI,zo,zI,xB,yz,z95,z2Q,_m,_o,Rb];rw[ix];simp only[Rb];rw[hE];simp only[Rb]
 induction Rn with
 | @done v hend=>
  intro pre h hl;rw[wv,tst pre v h,hend];rfl | @step v ls hend Rn ih=>
  intro pre h hl;have ih:=ih (pre++[v]) (h.step r hend) (by simp at hl ⊢;omega);rw[_n,wv,tst pre v h,hend,Rb,_f (by rfl)];have stp':=z9R r h hend hm (s++[(pre++[v]).map rD]);rw[<- hd]at stp';have ix:=z3o (x:=.loc s.length) (d:=rD v) (xs:=pre.map rD) (s:=s++[(pre++[v]).map rD]) (by simp[zY]);have body:z2E [some d,some e,some (.loc s.length)] (s++[(pre++[v]).map rD])=.ok (.nx [some d,some e,some (.loc s.length)]) (s++[(pre++[v]++[stp r v]).map rD]):=by
   have gt:(s++[(pre++[v]).map rD])[s.length]? = some ((pre++[v]).map rD):=by simp
   have st2:(s++[(pre++[v]).map rD]).set s.length ((pre++[v]).map rD++[rD (stp r v)])=s++[(pre++[v]++[stp r v]).map rD]:=by rw[_bD _ _ (by omega)];simp
   have fl:(rD (stp r v)).flat=true:=wm _;have ln:((pre++[v]).map rD).length<cap:=by simp[cap]at hl ⊢;omega
   generalize (s++[(pre++[v]).map rD])=S at *;simp only[z2E,uz,zb1,yI,zo,zI,xB,yz,z95,z2Q,_m,_o,Rb];rw[ix];simp only[Rb];rw[stp'];simp only[Rb];rw[gt];simp only;rw[_f ⟨fl,ln⟩,st2];rfl
  rw[body,Rb];simp only;rw[ih];simp
theorem zgG {n m:Nat} {v:List Int} {ls:List (List Int)} (r:Rl) (h:LotB n m v) (Rn:Run r v ls) (hm:m<=1999) (hl:ls.length<=50000) (s:Sto):M_run [.str (nmR r),rD v] s=.ok (.loc s.length) (s++[ls.map rD]):=by
 have w:=z42 r h.toLot s;have fl:(rD v).flat=true:=wm _;have key:∀d e:D,d=.str (nmR r)->e=rD v->M_run [d,e] s=.ok (.loc s.length) (s++[ls.map rD]):=λd e hd he=>by
  have st:zE ["rule","lot","lots"] [d,e]=[some d,some e,none]:=rfl;have w':zt [d,e] s=.ok .non s:=by rw[hd,he];exact w
  have fe:e.flat=true:=by rw[he];exact fl
  simp only[M_run,Mof,zdG,st,_n,_F,_N];rw[zk (ρ':=[some d,some e,none]) (s':=s) (by simp[w'])];rw[zk (ρ':=[some d,some e,some (.loc s.length)]) (s':=s++[[e]]) (by
   simp only[zaA,yw,zaR,zo,zI,yz,_o,_m,Rb];rw[_f ⟨by simp[cap],by simp[D.flat.flats,fe]⟩];rfl)];have lp:=zbE (e:=e) hd hm s Rn [] h (by simpa using hl);rw[_bw,_bw]at lp;rw[show ([v]:List (List Int)).map rD=[e] from by rw[he];rfl]at lp;rw[zk (ρ':=[some d,some e,some (.loc s.length)]) (s':=s++[ls.map rD]) (by rw[za3];exact z7h lp (by simp))];simp
 exact key _ _ rfl rfl
theorem zbf{n m:Nat}{r:Rl}{v:List Int}{ls:List (List Int)}(h:LotB n m v)(Rn:Run r v ls):∀a∈ls.dropLast,LotB n m a/\ended a=false:=by induction Rn with
 | done e=>simp | step e R2 ih=>
  intro a ha;rw[List.dropLast_cons_of_ne_nil R2.ne]at ha;rcases _p.mp ha with rfl | ha;·exact⟨h,e⟩
  ·exact ih (h.step r e) a ha
theorem um{n m:Nat}{v:List Int}{ls:List (List Int)}(r:Rl)(h:LotB n m v)(Rn:Run r v ls)(hm:m<=1999)(hl:ls.length<=50000){f g:FE}{ρ:Ev}{s:Sto}(hf:f ρ s=.ok (.str (nmR r)) s)(hg:g ρ s=.ok (rD v) s):jh (zd M_run (za f (za g zi))) ρ s=.ok (.lst (ls.map rD)) s:=by rw[z8x,call2 hf hg,zgG r h Rn hm hl s,z7s]
theorem z5E {n m:Nat} {v:List Int} {ls:List (List Int)} (r:Rl) (h:LotB n m v) (Rn:Run r v ls) (hm:m<=1999) (hl:ls.length<=50000) (s:Sto):xE [.str (nmR r),rD v] s=.ok (.lst ((vR r ls).map tD)) s:=by
 have fz:=λ(f g:FE) (ρ:Ev) (hf:f ρ s=.ok (.str (nmR r)) s) (hg:g ρ s=.ok (rD v) s)=>um r h Rn hm hl hf hg;have key:∀d e:D,d=.str (nmR r)->e=rD v->xE [d,e] s=.ok (.lst ((vR r ls).map tD)) s:=λd e hd he=>by
  have st:zE ["rule","lot"] [d,e]=[some d,some e]:=rfl;have f1:=fz (zc 0) (zc 1) [some d,some e] (by simp[hd]) (by simp[he]);obtain⟨z,hz⟩:∃z,ls=ls.dropLast++[z]:=⟨ls.getLast Rn.ne,(_by Rn.ne).symm⟩;have sl:eSl (jh (zd M_run (za (zc 0) (za (zc 1) zi)))) yj (wZ (z5k (eC (.int 1)))) [some d,some e] s=.ok (.lst (ls.dropLast.map rD)) s:=by
   rw[z55,f1];simp only[Rb,vg,qJ,z95,z2Q,dSl,Dd.listOf];have c:=zcg (ls.dropLast.map rD) (rD z);rw[show ls.dropLast.map rD++[rD z]=ls.map rD from by rw[show [rD z]=[z].map rD from rfl,<- _bV,<- hz]]at c;rw[c]
  have ends:=zbf h Rn;have c:=comp_map (mp:=[some 0,none]) (fg:=wH 1) (fe:=zd yQ (za (zc 0) (za (zc 1) zi))) rD (λa=>tD (zbn r a)) (λa=>[some d,some (rD a)]) ls.dropLast (xc sl) (λa _=>by simp) (λa ha=>by
   have:=z4Z r (ends a ha).1 (ends a ha).2 hm s;rw[call2 (x:=d) (y:=rD a) (by simp) (by simp),hd];exact this) (by simp[cap];omega);simp only[xE,Mof,kK,st,_n,_F,_N,jz,xW];rw[c];simp[vR,_a0]
 exact key _ _ rfl rfl
theorem zb0{i:Int}(h0:0<=i)(h:i<2 ^ 2000):i.natAbs<BIG:=by
 have e:(i.natAbs:Int)=i:=_cF h0;have k:(2:Int) ^ 2000<=(BIG:Int):=by decide +kernel
 exact Int.ofNat_lt.mp (Int.lt_of_lt_of_le (by rw[e];exact h) k)
theorem qP{a b:Int}(s:Sto)(ha:0<=a)(ha':a<2 ^ 2000)(hb:0<=b)(hb':b<2 ^ 2000):wI (.int a) (.int b) s=.ok (.int (a*b)) s:=by rw[zdd,_f ⟨zb0 ha ha',zb0 hb hb'⟩]
theorem zfb{a b:Int}(s:Sto)(hb:0<b)(hb':b<2 ^ 2000):z5V (.int a) (.int b) s=.ok (.int (a / b)) s:=by rw[zac,_f ⟨hb,zb0 (by omega) hb'⟩]
theorem zh2(ns:List Int)(k:Nat)(s:Sto):∃c,yC [.scr (iL ns),.int k] s=.ok (.int c) s:=by
 by_cases h:k<ns.length
 ·have hk:(k:Int)<ns.length:=by omega
  refine⟨ns[k],?_⟩;have e:ixN (iL ns).length (k:Int)=some k:=by
   unfold ixN;rw[_f (by omega),_f (by simpa using hk)];simp
  have ix:dIx (.scr (iL ns)) (.int k) s=.ok (.int ns[k]) s:=by
   simp only[dIx,zY,atI,e,_J];simp[h]
  simp only[iL]at ix;simp[yC,Mof,wy,zE,vW,zY,hk,ix]
 ·have hk:¬ (k:Int)<ns.length:=by omega
  exact⟨0,by simp[yC,Mof,wy,zE,vW,zY,hk]⟩
def Pot(s:Sto)(l:Nat):Prop:=∃p:Int,s[l]? = some [.int p]
theorem Pot.lt{s:Sto}{l:Nat}(h:Pot s l):l<s.length:=by
 obtain⟨p,e⟩:=h;exact (_d.mp e).1
theorem Pot.app{s:Sto}{l:Nat}(h:Pot s l)(t:Sto):Pot (s++t) l:=by
 obtain⟨p,e⟩:=h;exact⟨p,by rw[_r (_d.mp e).1];exact e⟩
structure ve(s s':Sto)(l:Nat):Prop where
 pot:Pot s' l
 len:s'.length=s.length
 oth:∀m,m≠l->s'[m]? = s[m]?
theorem zil{s:Sto}{l:Nat}{far:Int}(h:Pot s l)(h0:0<far)(h1:far<2 ^ 2000):∃r s',zh [.loc l,.int far] s=.ok (.int r) s'/\0<=r/\r<far/\ve s s' l:=by
 obtain⟨p,e⟩:=h;have hl:l<s.length:=(_d.mp e).1;refine⟨p % far,s.set l [.int (p / far)],?_,_a3 _ (by omega),_bc _ h0,⟨p / far,by rw[_Z hl]⟩,by simp,λm hm=>_L (_a4 hm)⟩;have ix:dIx (.loc l) (.int 0) s=.ok (.int p) s:=by simp[dIx,zY,e,atI,ixN]
 simp[zh,Mof,kJ,zE,ix,z6V s h0,zfb s h0 h1,e,ixN,jg,List.replicate]
theorem zh9(s:Sto):z8u (.int 10) (.int 18) s=.ok (.int 1000000000000000000) s:=by rw[zaB];rfl
theorem zkY(s:Sto):z8u (.int 10) (.int 6) s=.ok (.int 1000000) s:=by rw[zaB];rfl
theorem pow_step{m r j:Nat}(h:m<2147483648 ^ j)(hr:r<2147483587):m*2147483587+r<2147483648 ^ (j+1):=by
 rw[_dW];generalize 2147483648 ^ j=B at h;omega
theorem zia{m j:Nat}(h:m<2147483648 ^ j)(hj:j<=64):(m:Int)<2 ^ 2000:=by
 have h1:2147483648 ^ j<=2147483648 ^ 64:=_aX (by decide) hj;have h2:2147483648 ^ 64<=2 ^ 2000:=by decide +kernel
 have h3:m<2 ^ 2000:=_v h (_ad h1 h2);have h4:((2 ^ 2000:Nat):Int)=2 ^ 2000:=by decide +kernel
 rw[<- h4];exact Int.ofNat_lt.mpr h3
theorem zjV (c:Int) (s:Sto):∃p:Int,we [.int c] s=.ok (.loc s.length) (s++[[.int p]]):=by
 by_cases h:1000000000000000000<=c;·exact⟨c-1000000000000000000,by simp[we,Mof,qI,zE,zh9,h,D.flat.flats,jg,cap,List.replicate]⟩
 ·have lp:∃ ρ' s',kE [some (.int c),some (.int 0),none,none] s=.ok (.nx ρ') s'/\∃(m:Nat) (a b:Option D),ρ'=[some (.int c),some (.int m),a,b]/\s'=s:=by
   obtain⟨ρ',s',e,m,a,b,e1,e2,_⟩:=jK (all:=ye 64) (body:=λd ρ s=>(wH 2 d ρ s).bind fun ρ' s'=>(zA kG (zA kz kI)) ρ' s') (λj ρ s'=>∃(m:Nat) (a b:Option D),ρ=[some (.int c),some (.int m),a,b]/\s'=s/\m<2147483648 ^ j) (ye 64) 0 (λj x hx ρ s' hi=>by
    obtain⟨m,a,b,rfl,rfl,hm⟩:=hi;obtain⟨hj,rfl⟩:=z4S hx;rw[_av]at hm;have r0:=_a3 c (show (2147483629:Int)≠0 by decide);have r1:=_bc c (show (0:Int)<2147483629 by decide);have a1:za8 (.int c) (.int 2147483629) s'=.ok (.int (c % 2147483629)) s':=z6V s' (by decide);have a2:wI (.int 7919) (.int j) s'=.ok (.int (7919*j)) s':=qP s' (by decide) (by decide +kernel) (by omega) (by omega);have a3:wI (.int (c % 2147483629+7919*j+1)) (.int 48271) s'=.ok (.int ((c % 2147483629+7919*j+1)*48271)) s':=qP s' (by omega) (by omega) (by decide) (by decide +kernel);generalize hx1:(c % 2147483629+7919*(j:Int)+1)*48271 % 2147483647=x1;have b0:0<=x1:=by rw[<- hx1];exact _a3 _ (by decide)
    have b1:x1<2147483647:=by rw[<- hx1];exact _bc _ (by decide)
    have a4:za8 (.int ((c % 2147483629+7919*j+1)*48271)) (.int 2147483647) s'=.ok (.int x1) s':=by rw[<- hx1];exact z6V s' (by decide)
    have a5:wI (.int x1) (.int x1) s'=.ok (.int (x1*x1)) s':=qP s' b0 (by omega) b0 (by omega);have a6:wI (.int 69621) (.int j) s'=.ok (.int (69621*j)) s':=qP s' (by decide) (by decide +kernel) (by omega) (by omega);generalize hx2:(x1*x1+69621*(j:Int)+7) % 2147483587=x2;have c0:0<=x2:=by rw[<- hx2];exact _a3 _ (by decide)
    have c1:x2<2147483587:=by rw[<- hx2];exact _bc _ (by decide)
    have a7:za8 (.int (x1*x1+69621*j+7)) (.int 2147483587) s'=.ok (.int x2) s':=by rw[<- hx2];exact z6V s' (by decide)
    have a8:wI (.int m) (.int 2147483587) s'=.ok (.int (m*2147483587)) s':=qP s' (by omega) (zia hm (by omega)) (by decide) (by decide +kernel);obtain⟨y,rfl⟩:=Int.eq_ofNat_of_zero_le c0;refine⟨[some (.int c),some (.int ((m*2147483587+y:Nat):Int)),some (.int j),some (.int y)],s',?_,m*2147483587+y,_,_,rfl,rfl,?_⟩;·simp[a1,a2,a3,a4,a5,a6,a7,a8]
    ·rw[_av];exact pow_step hm (by omega)) [some (.int c),some (.int 0),none,none] s ⟨0,none,none,rfl,rfl,by decide⟩;exact⟨ρ',s',by simpa using e,m,a,b,e1,e2⟩
  obtain⟨ρ',s',e,m,a,b,rfl,rfl⟩:=lp;refine⟨m,?_⟩;have st:zE ["_law_cell","_law_number","_law_j","_law_more"] [.int c]=[some (.int c),none,none,none]:=rfl;simp only[we,Mof,qI,st,_n,_F,_N];rw[zk (ρ':=[some (.int c),none,none,none]) (s':=s') (by simp[zh9,h])];rw[zk (ρ':=[some (.int c),some (.int 0),none,none]) (s':=s') (by simp)];rw[zk e];simp[D.flat.flats,jg,cap]
theorem z4n{α:Type}{gd:List (Nat×List D)}{all:List D}{s:Sto}{body:D->Sto->R (Option D)}(hg:okG gd all s)(g f:α->D):∀(l:List α)(acc:List D),(∀a∈l,body (g a) s=.ok (some (f a)) s)->acc.length+l.length<=cap->xA gd all body (l.map g) acc s=.ok (acc++l.map f) s
 | [],acc,_,_=>by simp[xA,hg] | x::xs,acc,hb,hl=>by
  have ih:=z4n (all:=all) hg g f xs (acc++[f x]) (λy hy=>hb y (by simp[hy])) (by simp at hl ⊢;omega);have hc:acc.length<cap:=by simp at hl;omega
  rw[_j,xA,_f hg,hb x (by simp)];simp[hc,ih]
structure LS(s0:Sto)(l:Nat)(s:Sto)(xs:List Int):Prop where
 pot:Pot s l
 len:s.length=s0.length+1
 at_:s[s0.length]? = some (iL xs)
 oth:∀m,m≠l->m<s0.length->s[m]? = s0[m]?
theorem LS.drawn{s0 s s':Sto}{l:Nat}{xs:List Int}(h:LS s0 l s xs)(hl:l<s0.length)(d:ve s s' l):LS s0 l s' xs:= ⟨d.pot,by rw[d.len,h.len],by rw[d.oth _ (by omega)];exact h.at_,λm h1 h2=>by rw[d.oth m h1];exact h.oth m h1 h2⟩
theorem LS.set{s0 s:Sto}{l:Nat}{xs:List Int}(h:LS s0 l s xs)(hl:l<s0.length)(ys:List Int):LS s0 l (s.set s0.length (iL ys)) ys:=by
 refine⟨?_,by simp[h.len],_Z (by rw[h.len];omega),λm h1 h2=>?_⟩
 ·obtain⟨p,e⟩:=h.pot;exact⟨p,by rw[_L (by omega)];exact e⟩
 ·rw[_L (by omega)];exact h.oth m h1 h2
theorem LS.fin{s0 s:Sto}{l:Nat}{xs:List Int}(h:LS s0 l s xs)(hl:l<s0.length):ve s0 (s.take s0.length) l:=by
 obtain⟨p,e⟩:=h.pot;refine⟨⟨p,by rw[_aE hl];exact e⟩,by simp[h.len],λm h1=>?_⟩;by_cases h2:m<s0.length;·rw[_aE h2];exact h.oth m h1 h2
 ·rw[_aD (by simp[h.len];omega),_aD (by omega)]
theorem LS.start{s0 s:Sto}{l:Nat}(d:ve s0 s l)(h:Pot s0 l)(xs:List Int):LS s0 l (s++[iL xs]) xs:= ⟨d.pot.app _,by simp[d.len],by rw[<- d.len];simp,λm h1 h2=>by rw[_r (by rw[d.len];exact h2)];exact d.oth m h1⟩
theorem ve.trans{s s1 s2:Sto}{l:Nat}(a:ve s s1 l)(b:ve s1 s2 l):ve s s2 l:=⟨b.pot,by rw[b.len,a.len],λm h=>by rw[b.oth m h,a.oth m h]⟩
theorem wD{s:Sto}{l:Nat}{far:Int}{f g:FE}{ρ:Ev}(h:Pot s l)(h0:0<far)(h1:far<2 ^ 2000)(hf:f ρ s=.ok (.loc l) s)(hg:g ρ s=.ok (.int far) s):∃r s',zd zh (za f (za g zi)) ρ s=.ok (.int r) s'/\0<=r/\r<far/\ve s s' l:=by
 obtain⟨r,s',e,a,b,c⟩:=zil h h0 h1;exact⟨r,s',by rw[call2 hf hg,e],a,b,c⟩
theorem zj5(s:Sto):z8u (.int 10) (.int 30) s=.ok (.int 1000000000000000000000000000000) s:=by rw[zaB];rfl
theorem z0u{xs:List D}{i:Int}{d:D}{s:Sto}(h0:0<=i)(h:xs[i.toNat]? = some d):dIx (.lst xs) (.int i) s=.ok d s:=by
 have hj:i.toNat<xs.length:=(_d.mp h).1;have e:ixN xs.length i=some i.toNat:=by
  unfold ixN;rw[_f h0,_f (by omega)]
 simp only[dIx,zY,atI,e,_J,h]
theorem zgN{xs:List D}{l:Nat}{i:Int}{d:D}{s:Sto}(hl:s[l]? = some xs)(h0:0<=i)(h:xs[i.toNat]? = some d):dIx (.loc l) (.int i) s=.ok d s:=by
 have hj:i.toNat<xs.length:=(_d.mp h).1;have e:ixN xs.length i=some i.toNat:=by
  unfold ixN;rw[_f h0,_f (by omega)]
 simp only[dIx,zY,hl,atI,e,_J,h]
theorem zif{fa fb:FE}{ρ:Ev}{s s2:Sto}{L:Nat}{xs:List Int}{x:Int}(ha:fa ρ s=.ok (.loc L) s)(hb:fb ρ s=.ok (.int x) s2)(at_:s2[L]? = some (iL xs))(hl:xs.length<1000):vU (zfh fa fb) ρ s=.ok (.nx ρ) (s2.set L (iL (xs++[x]))):=by
 rw[uz,zb1,ha,Rb];simp only;rw[hb,Rb];simp only[at_];rw[_f ⟨jg x,by simp[cap];omega⟩];simp
theorem z5p{fa fb fc:FE}{ρ:Ev}{s s1 s2:Sto}{L:Nat}{xs:List Int}{i x:Int}(hc:fc ρ s=.ok (.int x) s1)(ha:fa ρ s1=.ok (.loc L) s1)(hb:fb ρ s1=.ok (.int i) s2)(at_:s2[L]? = some (iL xs))(h0:0<=i)(h1:i<xs.length):z4u fa fb fc ρ s=.ok (.nx ρ) (s2.set L (iL (xs.set i.toNat x))):=by
 have e:ixN (iL xs).length i=some i.toNat:=by
  unfold ixN;rw[_f h0,_f (by simp;omega)]
 rw[zfK,hc,Rb,ha,Rb,hb,Rb];simp only[at_,e,jg,_N,iL,List.map_set]
theorem zbd{xs:List Int}{i:Nat}{x B:Int}(h:∀y∈xs,0<=y/\y<=B)(hx:0<=x/\x<=B):∀y∈xs.set i x,0<=y/\y<=B:=λy hy=>by
 rcases List.mem_or_eq_of_mem_set hy with h2 | h2;·exact h y h2
 ·rw[h2];exact hx
theorem zfk{r:Int}(s:Sto)(h0:0<=r)(h1:r<6):∃far:Int,dIx (.lst [.int 13,.int 1000,.int 1000000,.int 1000000000000000000000000000000,.int 3,.int 60]) (.int r) s=.ok (.int far) s/\3<=far/\far<=1000000000000000000000000000000:=by
 have:r=0\/r=1\/r=2\/r=3\/r=4\/r=5:=by omega
 rcases this with rfl | rfl | rfl | rfl | rfl | rfl;·exact⟨13,z0u (by decide) rfl,by decide,by decide⟩
 ·exact⟨1000,z0u (by decide) rfl,by decide,by decide⟩
 ·exact⟨1000000,z0u (by decide) rfl,by decide,by decide⟩
 ·exact⟨1000000000000000000000000000000,z0u (by decide) rfl,by decide,by decide⟩
 ·exact⟨3,z0u (by decide) rfl,by decide,by decide⟩
 ·exact⟨60,z0u (by decide) rfl,by decide,by decide⟩
theorem bB:(1000000000000000000000000000000:Int)<2 ^ 2000:=by decide +kernel
theorem qN{x:Int}(h:x<=1000):x<2 ^ 2000:=_bv h (by decide +kernel)
theorem z7i {s0:Sto} {l:Nat} {far thin:Int} (hl:l<s0.length) (f0:3<=far) (f1:far<=1000000000000000000000000000000) (a1:Option D):∀(k j:Nat) (all:List D) (s:Sto) (xs:List Int) (p q:Option D),LS s0 l s xs->(∀y∈xs,0<=y/\y<=1000000000000000000000000000000)->xs.length=j->j+k<=4-> ∃s' ys p' q',wE [] all (λd ρ s=>(wH 5 d ρ s).bind fun ρ' s'=>(zA wM wS) ρ' s') ((List.range' j k).map λi=>D.int ((i:Nat):Int)) [some (.loc l),a1,some (.int far),some (.int thin),some (.loc s0.length),p,q,none] s=.ok (.nx [some (.loc l),a1,some (.int far),some (.int thin),some (.loc s0.length),p',q',none]) s'/\LS s0 l s' ys/\(∀y∈ys,0<=y/\y<=1000000000000000000000000000000)/\ys.length=j+k
 | 0,j,all,s,xs,p,q,h,hx,hj,_=>⟨s,xs,p,q,by simp[wE,okG],h,hx,by omega⟩ | k+1,j,all,s,xs,p,q,h,hx,hj,hk=>by
  obtain⟨r1,s1,e1,r1a,r1b,d1⟩:=wD (ρ:=[some (.loc l),a1,some (.int far),some (.int thin),some (.loc s0.length),some (.int j),q,none]) (f:=zc 0) (g:=zc 2) h.pot (by omega) (_bv f1 bB) (by simp) (by simp);have h1:=h.drawn hl d1;obtain⟨r2,s2,e2,r2a,r2b,d2⟩:=wD (ρ:=[some (.loc l),a1,some (.int far),some (.int thin),some (.loc s0.length),some (.int j),some (.int (r1+1)),none]) (f:=zc 0) (g:=eC (.int 4)) (far:=4) h1.pot (by decide) (qN (by decide)) (by simp) (by simp);have h2:=h1.drawn hl d2;have hv:∃x:Int,wI (.int (r1+1)) (.int (if decide (thin<=r2)=true then 1 else 0)) s2=.ok (.int x) s2/\0<=x/\x<=1000000000000000000000000000000:=by
   refine⟨(r1+1)*(if decide (thin<=r2)=true then 1 else 0),qP s2 (by omega) (_bv (show r1+1<=1000000000000000000000000000000 by omega) bB) (by split<;>decide) (by split<;>exact qN (by decide)),?_⟩;split<;>omega
  obtain⟨x,ex,x0,x1⟩:=hv;have h3:=h2.set hl (xs++[x]);obtain⟨s',ys,p',q',e3,h4,y4,l4⟩:=z7i hl f0 f1 a1 k (j+1) all (s2.set s0.length (iL (xs++[x]))) (xs++[x]) (some (.int j)) (some (.int (r1+1))) h3 (by
   intro y hy;rcases _M.mp hy with hy | hy;·exact hx y hy
   ·simp at hy;subst hy;exact⟨x0,x1⟩) (by simp[hj]) (by omega);refine⟨s',ys,p',q',?_,h4,y4,by omega⟩;have b1:wM [some (.loc l),a1,some (.int far),some (.int thin),some (.loc s0.length),some (.int j),q,none] s=.ok (.nx [some (.loc l),a1,some (.int far),some (.int thin),some (.loc s0.length),some (.int j),some (.int (r1+1)),none]) s1:=by
   rw[wM,yw,xB,e1];simp
  have b2:wS [some (.loc l),a1,some (.int far),some (.int thin),some (.loc s0.length),some (.int j),some (.int (r1+1)),none] s1=.ok (.nx [some (.loc l),a1,some (.int far),some (.int thin),some (.loc s0.length),some (.int j),some (.int (r1+1)),none]) (s2.set s0.length (iL (xs++[x]))):=by
   have ev:eOp wI (zc 6) (zd zgc (za (eOp dGe (zd zh (za (zc 0) (za (eC (.int 4)) zi))) (zc 3)) zi)) [some (.loc l),a1,some (.int far),some (.int thin),some (.loc s0.length),some (.int j),some (.int (r1+1)),none] s1=.ok (.int x) s2:=by
    have g:zd zgc (za (eOp dGe (zd zh (za (zc 0) (za (eC (.int 4)) zi))) (zc 3)) zi) [some (.loc l),a1,some (.int far),some (.int thin),some (.loc s0.length),some (.int j),some (.int (r1+1)),none] s1=.ok (.int (if decide (thin<=r2)=true then 1 else 0)) s2:=by
     rw[yI,zo,xB,e2];simp only[Rb,yz,_m,_o,zjC,zI,zgc]
    rw[xB];simp only[yz,_m,_o,Rb];rw[g,Rb,ex]
   rw[wS];exact zif (by simp) ev h2.at_ (by omega)
  rw[List.range'_succ,_j,wE,_f (by intro p hp;simp at hp),zdQ,Rb];simp only[_b0,_a8];rw[zd8,b1,Rb];simp only;rw[b2,Rb];simp only;exact e3
theorem zcj{v:List Int}{n:Nat}{s:Sto}:z7H n (.ok (rD v) s)=.ok (rD v) (s.take n):=z7X (wm v)
theorem za0{ns:List Int}{L:Nat}{s:Sto}{f:FE}{ρ:Ev}(h:ns≠[])(e:s[L]? = some (iL ns))(hf:f ρ s=.ok (.loc L) s):tOf (eOp dEq (zd va (za f zi)) (eC (.int 0))) ρ s=.ok (decide (maxL ns=0)) s:=by
 rw[z6j,xB,wx hf,zcd h e];simp
theorem z8j{ns:List Int}(h:ns≠[])(hn:∀y∈ns,0<=y)(hm:maxL ns≠0):∃x∈ns,0<x:=⟨maxL ns,maxL_mem h,by have:=hn _ (maxL_mem h);omega⟩
theorem zk6 {s:Sto} {l:Nat} (h:Pot s l):∃n v s',vi [.loc l] s=.ok (rD v) s'/\LotB n 104 v/\ve s s' l:=by
 have hl:=h.lt;have st:zE ["_law_pot_here","_law_size","_law_far","_law_thin","_law_numbers","_law_place","_law_number","_law_more"] [.loc l]=[some (.loc l),none,none,none,none,none,none,none]:=rfl;obtain⟨r1,s1,e1,a1,b1,d1⟩:=wD (ρ:=[some (.loc l),none,none,none,none,none,none,none]) (f:=zc 0) (g:=eC (.int 3)) (far:=3) h (by decide) (qN (by decide)) (by simp) (by simp);obtain⟨n,hn⟩:∃n:Nat,2+r1=(n:Int):=⟨(2+r1).toNat,by omega⟩;have hsz:Sz n:=by unfold Sz;omega
 have p1:uD [some (.loc l),none,none,none,none,none,none,none] s=.ok (.nx [some (.loc l),some (.int n),none,none,none,none,none,none]) s1:=by
  rw[uD,yw,xB,z2Q,Rb,e1];simp[hn]
 obtain⟨r2,s2,e2,a2,b2,d2⟩:=wD (ρ:=[some (.loc l),some (.int n),none,none,none,none,none,none]) (f:=zc 0) (g:=eC (.int 6)) (far:=6) d1.pot (by decide) (qN (by decide)) (by simp) (by simp);obtain⟨far,ef,f0,f1⟩:=zfk s2 a2 b2;have p2:uy [some (.loc l),some (.int n),none,none,none,none,none,none] s1=.ok (.nx [some (.loc l),some (.int n),some (.int far),none,none,none,none,none]) s2:=by
  rw[uy,yw,xB];have:z9n (za (eC (.int 13)) (za (eC (.int 1000)) (za (eOp z8u (eC (.int 10)) (eC (.int 6))) (za (eOp z8u (eC (.int 10)) (eC (.int 30))) (za (eC (.int 3)) (za (eC (.int 60)) zi)))))) [some (.loc l),some (.int n),none,none,none,none,none,none] s1=.ok (.lst [.int 13,.int 1000,.int 1000000,.int 1000000000000000000000000000000,.int 3,.int 60]) s1:=by
   simp only[z4s,zo,zI,z2Q,xB,Rb,zkY,zj5];rw[_f (by simp[cap])]
  rw[this,Rb,e2,Rb,ef];simp
 obtain⟨thin,s3,e3,a3,b3,d3⟩:=wD (ρ:=[some (.loc l),some (.int n),some (.int far),none,none,none,none,none]) (f:=zc 0) (g:=eC (.int 4)) (far:=4) d2.pot (by decide) (qN (by decide)) (by simp) (by simp);have p3:uu [some (.loc l),some (.int n),some (.int far),none,none,none,none,none] s2=.ok (.nx [some (.loc l),some (.int n),some (.int far),some (.int thin),none,none,none,none]) s3:=by
  rw[uu,yw,e3];simp
 have dd:=(d1.trans d2).trans d3;have p4:uA [some (.loc l),some (.int n),some (.int far),some (.int thin),none,none,none,none] s3=.ok (.nx [some (.loc l),some (.int n),some (.int far),some (.int thin),some (.loc s.length),none,none,none]) (s3++[iL []]):=by
  rw[uA,yw,zaR,zI,Rb,_f ⟨by simp,rfl⟩,dd.len];simp
 have L0:=LS.start dd h [];obtain⟨s5,xs,p',q',e5,L5,x5,n5⟩:=z7i (thin:=thin) hl f0 f1 (some (.int n)) n 0 (ye n) (s3++[iL []]) [] none none L0 (by simp) rfl (by unfold Sz at hsz;omega);have p5:ub [some (.loc l),some (.int n),some (.int far),some (.int thin),some (.loc s.length),none,none,none] (s3++[iL []])=.ok (.nx [some (.loc l),some (.int n),some (.int far),some (.int thin),some (.loc s.length),p',q',none]) s5:=by
  rw[ub,z1a,z9a (n:=n) (s1:=s3++[iL []]) (by unfold Sz at hsz;omega) (by simp),Rb];rw[show (ye n)=(List.range' 0 n).map (λi=>D.int ((i:Nat):Int)) from by rw[ye,List.range_eq_range']]at e5 ⊢;exact e5
 rw[_av]at n5;have ne5:xs≠[]:=λz=>by rw[z]at n5;simp at n5;unfold Sz at hsz;omega
 have s8:∃s6 ys,wO [some (.loc l),some (.int n),some (.int far),some (.int thin),some (.loc s.length),p',q',none] s5=.ok (.nx [some (.loc l),some (.int n),some (.int far),some (.int thin),some (.loc s.length),p',q',none]) s6/\LS s l s6 ys/\(∀y∈ys,0<=y/\y<=1000000000000000000000000000000)/\ys.length=n:=by
  have t:=za0 (f:=zc 4) (ρ:=[some (.loc l),some (.int n),some (.int far),some (.int thin),some (.loc s.length),p',q',none]) ne5 L5.at_ (by simp);by_cases z:maxL xs=0
  ·obtain⟨ra,sa,ea,aa,ba,da⟩:=wD (ρ:=[some (.loc l),some (.int n),some (.int far),some (.int thin),some (.loc s.length),p',q',none]) (f:=zc 0) (g:=zc 2) (far:=far) L5.pot (by omega) (_bv f1 bB) (by simp) (by simp);have La:=L5.drawn hl da;obtain⟨rb,sb,eb,ab,bb,db⟩:=wD (ρ:=[some (.loc l),some (.int n),some (.int far),some (.int thin),some (.loc s.length),p',q',none]) (f:=zc 0) (g:=zc 1) (far:=n) La.pot (by unfold Sz at hsz;omega) (qN (by unfold Sz at hsz;omega)) (by simp) (by simp);have Lb:=La.drawn hl db;refine⟨_,_,?_,Lb.set hl (xs.set rb.toNat (1+ra)),zbd x5 (by omega),by simp[n5]⟩;rw[wO,z4h,t,Rb,_f (by simpa using z),ku];exact z5p (by rw[xB,z2Q,Rb,ea];simp) (by simp) eb Lb.at_ ab (by omega)
  ·refine⟨s5,xs,?_,L5,x5,n5⟩;rw[wO,z4h,t,Rb,_i (by simpa using z)];rfl
 obtain⟨s6,ys,p8,L6,x6,n6⟩:=s8;obtain⟨r7,s7,e7,a7,b7,d7⟩:=wD (ρ:=[some (.loc l),some (.int n),some (.int far),some (.int thin),some (.loc s.length),p',q',none]) (f:=zc 0) (g:=eC (.int 12)) (far:=12) L6.pot (by decide) (qN (by decide)) (by simp) (by simp);have L7:=L6.drawn hl d7;have p10:vI [some (.loc l),some (.int n),some (.int far),some (.int thin),some (.loc s.length),p',q',none] s6=.ok (.nx [some (.loc l),some (.int n),some (.int far),some (.int thin),some (.loc s.length),p',q',some (.int (1+r7))]) s7:=by
  rw[vI,yw,xB,z2Q,Rb,e7];simp
 have s11:∃s8 zs,wc [some (.loc l),some (.int n),some (.int far),some (.int thin),some (.loc s.length),p',q',some (.int (1+r7))] s7=.ok (.nx [some (.loc l),some (.int n),some (.int far),some (.int thin),some (.loc s.length),p',q',some (.int (1+r7))]) s8/\LS s l s8 zs/\(∀y∈zs,0<=y/\y<=1000000000000000000000000000000)/\zs.length=n:=by
  obtain⟨rt,st,et,_,_,dt⟩:=wD (ρ:=[some (.loc l),some (.int n),some (.int far),some (.int thin),some (.loc s.length),p',q',some (.int (1+r7))]) (f:=zc 0) (g:=eC (.int 3)) (far:=3) L7.pot (by decide) (qN (by decide)) (by simp) (by simp);have Lt:=L7.drawn hl dt;have t:tOf (eOp dEq (zd zh (za (zc 0) (za (eC (.int 3)) zi))) (eC (.int 0))) [some (.loc l),some (.int n),some (.int far),some (.int thin),some (.loc s.length),p',q',some (.int (1+r7))] s7=.ok (decide (rt=0)) st:=by rw[z6j,xB,et];simp
  by_cases z:rt=0
  ·obtain⟨ra,sa,ea,aa,ba,da⟩:=wD (ρ:=[some (.loc l),some (.int n),some (.int far),some (.int thin),some (.loc s.length),p',q',some (.int (1+r7))]) (f:=zc 0) (g:=zc 1) (far:=n) Lt.pot (by unfold Sz at hsz;omega) (qN (by unfold Sz at hsz;omega)) (by simp) (by simp);have La:=Lt.drawn hl da;obtain⟨rb,sb,eb,ab,bb,db⟩:=wD (ρ:=[some (.loc l),some (.int n),some (.int far),some (.int thin),some (.loc s.length),p',q',some (.int (1+r7))]) (f:=zc 0) (g:=zc 1) (far:=n) La.pot (by unfold Sz at hsz;omega) (qN (by unfold Sz at hsz;omega)) (by simp) (by simp);have Lb:=La.drawn hl db;have hra:ra.toNat<ys.length:=by omega
   have ix:=zgN (d:=.int ys[ra.toNat]) La.at_ aa (by simp[hra]);have my:=x6 ys[ra.toNat] (_cp hra);refine⟨_,_,?_,Lb.set hl (ys.set rb.toNat ys[ra.toNat]),zbd x6 my,by simp[n6]⟩;rw[wc,z4h,t,Rb,_f (by simpa using z),ja];exact z5p (by
    rw[xB];simp only[yz,_m,_o,Rb];rw[ea,Rb];exact ix) (by simp) eb Lb.at_ ab (by omega)
  ·refine⟨st,ys,?_,Lt,x6,n6⟩;rw[wc,z4h,t,Rb,_i (by simpa using z)];rfl
 obtain⟨s8,zs,p11,L8,x8,n8⟩:=s11;have ne8:zs≠[]:=λz=>by rw[z]at n8;simp at n8;unfold Sz at hsz;omega
 have s13:∃s9 ws,xY [some (.loc l),some (.int n),some (.int far),some (.int thin),some (.loc s.length),p',q',some (.int (1+r7))] s8=.ok (.nx [some (.loc l),some (.int n),some (.int far),some (.int thin),some (.loc s.length),p',q',some (.int (1+r7))]) s9/\LS s l s9 ws/\(∀y∈ws,0<=y/\y<=1000000000000000000000000000000)/\ws.length=n/\∃x∈ws,0<x:=by
  have t:=za0 (f:=zc 4) (ρ:=[some (.loc l),some (.int n),some (.int far),some (.int thin),some (.loc s.length),p',q',some (.int (1+r7))]) ne8 L8.at_ (by simp);by_cases z:maxL zs=0
  ·refine⟨_,_,?_,L8.set hl (zs.set (0:Int).toNat 1),zbd x8 (by omega),by simp[n8],1,?_,by decide⟩
   ·rw[xY,z4h,t,Rb,_f (by simpa using z),jb];exact z5p (s1:=s8) (s2:=s8) (L:=s.length) (i:=0) (x:=1) (by simp) (by simp) (by simp) L8.at_ (by decide) (by unfold Sz at hsz;omega)
   ·exact List.mem_set (by unfold Sz at hsz;omega) _
  ·refine⟨s8,zs,?_,L8,x8,n8,z8j ne8 (λy hy=>(x8 y hy).1) z⟩;rw[xY,z4h,t,Rb,_i (by simpa using z)];rfl
 obtain⟨s9,ws,p13,L9,x9,n9,w9⟩:=s13;have hk:(0:Int)<1+r7:=by omega
 refine⟨n,scl (1+r7) ws,s9.take s.length,?_,⟨⟨hsz,by rw[zfT hk,n9],λx hx=>?_,?_⟩,λx hx=>?_⟩,L9.fin hl⟩
 ·simp only[vi,zeX,Mof,z0D,st,_n,_F,_N];rw[zk p1,zk p2,zk p3,zk p4,zk p5,zk p8,zk p10,zk p11,zk p13];have c:zK (yG (zc 4)) [some 7,none] (wH 1) xJ (eOp wI (zc 1) (zc 0)) [some (.loc l),some (.int n),some (.int far),some (.int thin),some (.loc s.length),p',q',some (.int (1+r7))] s9=.ok (.lst (iL (scl (1+r7) ws))) s9:=by
   rw[jL,z15,z9d];simp only[yz,_m,_o,Rb,L9.at_];rw[z4n (by
    intro p hp;simp at hp;subst hp;exact L9.at_) D.int (λy=>D.int (y*(1+r7))) ws [] (by
    intro y hy;have mm:=qP (a:=y) (b:=1+r7) s9 (x9 y hy).1 (_bv (x9 y hy).2 bB) (by omega) (qN (by omega));simp[mm]) (by unfold Sz at hsz;simp[cap];omega)];simp[scl,_a0]
  rw[jI,xW,wx c,z4K];simp only[Rb];exact zcj
 ·obtain⟨y,hy,rfl⟩:=_A.mp hx;exact Int.mul_nonneg (x9 y hy).1 (by omega)
 ·obtain⟨y,hy,h0⟩:=w9;exact⟨y*(1+r7),(zg0 hk).mpr hy,Int.mul_pos h0 hk⟩
 ·obtain⟨y,hy,rfl⟩:=_A.mp hx;have b:=x9 y hy;have m1:y*(1+r7)<=1000000000000000000000000000000*(1+r7):=Int.mul_le_mul_of_nonneg_right b.2 (by omega);have:(2:Int) ^ 104=20282409603651670423947251286016:=by decide
  omega
def okD:Nat->D->Bool
 | _,.non=>true | _,.bl _=>true | _,.int _=>true | _,.str x=>PyData.strOk x | k+1,.tup xs=>xs.all (okD k) | k+1,.lst xs=>xs.all (okD k) | _,_=>false
theorem zjQ{k:Nat}:∀(xs:List D),(∀x∈xs,PyData.canLay0 (xl x)=true/\PyData.depth (xl x)<=2*k+3/\PyData.eqv (xl x) (xl x)=true)->PyData.canLayAll0 (toPys xs)=true/\PyData.depthAll (toPys xs)<=2*k+4/\PyData.eqvAll (toPys xs) (toPys xs)=true
 | [],_=>⟨rfl,by simp[toPys,PyData.depthAll],by simp[toPys,PyData.eqvAll]⟩ | x::xs,h=>by
  have h1:=h x (by simp);have h2:=zjQ xs λy hy=>h y (by simp[hy]);refine⟨by simp[toPys,PyData.canLayAll0,h1.1,h2.1],?_,by simp[toPys,PyData.eqvAll,h1.2.2,h2.2.2]⟩;simp only[toPys,PyData.depthAll];omega
theorem zat:∀(k:Nat)(d:D),okD k d=true->PyData.canLay0 (xl d)=true/\PyData.depth (xl d)<=2*k+3/\PyData.eqv (xl d) (xl d)=true:=by
 intro k;induction k with
 | zero=>
  intro d h;cases d with
  | str x=>simp only[okD]at h;simp[xl,PyData.canLay0,PyData.depth,PyData.eqv,h] | non=>simp[xl,PyData.canLay0,PyData.depth,PyData.eqv] | bl b=>simp[xl,PyData.canLay0,PyData.depth,PyData.eqv] | int i=>simp[xl,PyData.canLay0,PyData.depth,PyData.eqv] | _=>simp[okD]at h
 | succ k ih=>
  intro d h;cases d with
  | str x=>simp only[okD]at h;simp[xl,PyData.canLay0,PyData.depth,PyData.eqv,h] | non=>simp[xl,PyData.canLay0,PyData.depth,PyData.eqv] | bl b=>simp[xl,PyData.canLay0,PyData.depth,PyData.eqv] | int i=>simp[xl,PyData.canLay0,PyData.depth,PyData.eqv] | tup xs=>
   simp only[okD,_V]at h;have q:=zjQ (k:=k) xs λx hx=>ih x (h x hx);refine⟨by simp only[xl,PyData.canLay0,q.1],?_,by simp only[xl,PyData.eqv,q.2.2]⟩;simp only[xl,PyData.depth];omega | lst xs=>
   simp only[okD,_V]at h;have q:=zjQ (k:=k) xs λx hx=>ih x (h x hx);refine⟨by simp only[xl,PyData.canLay0,q.1],?_,by simp only[xl,PyData.eqv,q.2.2]⟩;simp only[xl,PyData.depth];omega | _=>simp[okD]at h
theorem z6r{k:Nat}{d:D}(h:okD k d=true)(hk:k<=10):z8b d=true:=by
 have q:=zat k d h;simp only[z8b,SeqAt.shaped,q.1];simp;omega
theorem ne_self{k:Nat}{d:D}(h:okD k d=true)(hk:k<=10)(s:Sto):dNe d d s=.ok (.bl false) s:=by
 have q:=zat k d h;have o:=z6r h hk;rw[dNe,_f ⟨o,o⟩];simp only[eqD,q.2.2];rfl
theorem z9i(k:Nat)(ns:List Int):(iL ns).all (okD k)=true:=by
 rw[_V];intro x hx;obtain⟨n,_,rfl⟩:=_A.mp hx;cases k<;>rfl
theorem zhY(k:Nat)(ns:List Int):okD (k+1) (rD ns)=true:=z9i k ns
theorem zhc(k:Nat)(T:Tb):okD (k+2) (tD T)=true:=by
 show (T.map rD).all (okD (k+1))=true;rw[_V];intro x hx;obtain⟨n,_,rfl⟩:=_A.mp hx;exact zhY k n
theorem ze8(k:Nat)(T:Tb):okD (k+2) (.lst (T.map rD))=true:=zhc k T
end Pg
namespace Pn
open L2 Dd Pm Pg
def isI:D->Bool
 | .int _=>true | _=>false
theorem z6o{d:D}(h:(tyD d).isSome=true)(s:Sto):yc [d] s=.ok (.bl (isI d)) s:=by cases d<;>simp[tyD]at h<;>simp[yc,Mof,qE,zE,gIs,tyD,isT,isI]
end Pn
namespace Pg
open L2 Dd Pm
theorem vr{i:Nat}{ρ:Ev}{s:Sto}{d:D}(h:ρ[i]? = some (some d)):zc i ρ s=.ok d s:=by rw[yz,h]
theorem z81{f g:FS}{t:FT}{ρ:Ev}{s:Sto}(h:t ρ s=.ok false s):fIf t f g ρ s=g ρ s:=by rw[z4h,h,Rb,_i (by decide)]
theorem z6e{t u:FT}{ρ:Ev}{s:Sto}(h:t ρ s=.ok false s)(h2:u ρ s=.ok false s):fOr t u ρ s=.ok false s:=by rw[zjT,h,Rb,_i (by decide),h2]
theorem wA{f:FE}{ρ:Ev}{s:Sto}{b:Bool}(h:f ρ s=.ok (.bl b) s):tOf f ρ s=.ok b s:=by rw[z6j,h];rfl
theorem zhS{t:FT}{ρ:Ev}{s:Sto}(h:t ρ s=.ok true s):z3D t ρ s=.ok false s:=by rw[z7D,h];rfl
end Pg
namespace Pg
open L2 Dd Pm
theorem z7y{α:Type}{all:List D}{body:D->Sto->R (Option D)}(g:α->D)(P:Sto->Prop)(Q:D->Prop):∀(l:List α)(acc:List D)(s:Sto),(∀a∈l,∀s,P s->∃y s',body (g a) s=.ok (some y) s'/\Q y/\P s')->acc.length+l.length<=cap->P s->(∀y∈acc,Q y)->∃ys s',xA [] all body (l.map g) acc s=.ok ys s'/\ys.length=acc.length+l.length/\(∀y∈ys,Q y)/\P s'
 | [],acc,s,_,_,hP,hQ=>⟨acc,s,by simp[xA,okG],by simp,hQ,hP⟩ | x::xs,acc,s,hb,hl,hP,hQ=>by
  obtain⟨y,s1,e,hy,hP1⟩:=hb x (by simp) s hP;obtain⟨ys,s2,e2,h1,h2,h3⟩:=z7y (all:=all) g P Q xs (acc++[y]) s1 (λa ha=>hb a (by simp[ha])) (by simp at hl ⊢;omega) hP1 (by
   intro z hz;rcases _M.mp hz with hz | hz;·exact hQ z hz
   ·simp at hz;rw[hz];exact hy);refine⟨ys,s2,?_,by simp at h1 ⊢;omega,h2,h3⟩;rw[_j,xA,_f (by intro p hp;simp at hp),e];have hc:acc.length<cap:=by simp at hl;omega
  simp[hc,e2]
theorem zeB {α:Type} {fi:FI} {mp:List (Option Nat)} {fg:FG} {fe:FE} {ρ:Ev} {s s0:Sto} (g:α->D) (ev:α->Ev) (P:Sto->Prop) (Q:D->Prop) (l:List α) (hi:fi ρ s=.ok (l.map g,[]) s0) (hg:∀a∈l,∀s,fg (g a) (zW mp ρ) s=.ok (ev a) s) (he:∀a∈l,∀s,P s->∃y s',fe (ev a) s=.ok y s'/\Q y/\P s') (hl:l.length<=cap) (hP:P s0): ∃ys s',zK fi mp fg xJ fe ρ s=.ok (.lst ys) s'/\ys.length=l.length/\(∀y∈ys,Q y)/\P s':=by
 obtain⟨ys,s',e,h1,h2,h3⟩:=z7y (all:=l.map g) (body:=λd s=>(fg d (zW mp ρ) s).bind fun ρ' s1=>(xJ ρ' s1).bind λt s2=>if t=true then (fe ρ' s2).bind λy s3=>.ok (some y) s3 else .ok none s2) g P Q l [] s0 (λa ha s hP=>by
  obtain⟨y,s',e,hq,hp⟩:=he a ha s hP;exact⟨y,s',by simp[hg a ha s,e],hq,hp⟩) (by simpa using hl) hP (by simp);refine⟨ys,s',?_,by simpa using h1,h2,h3⟩;rw[jL,z15,hi,Dd.R.bind_ok];rw[e];rfl
theorem z5n{ar:FA}{ρ:Ev}{s s1:Sto}{n:Nat}(hn:n<=1000)(h:ar ρ s=.ok [.int n] s1):z5g ar ρ s=.ok ((List.range n).map λk:Nat=>D.int ((k:Nat):Int),[]) s1:=by
 rw[zdD,h,Dd.R.bind_ok];simp only;rw[_f ⟨by omega,by omega⟩];simp[ye]
end Pg
namespace Po
open L2 Dd Pm Pg Pn
theorem zhx{f g:FS}{t:FT}{ρ:Ev}{s:Sto}(h:t ρ s=.ok true s):fIf t f g ρ s=f ρ s:=by rw[z4h,h,Rb,_f rfl]
end Po
namespace Po
open L2 Dd Pm Pg Pn
def rls:List Rl:=[.al,.le,.nx,.tu]
theorem z6H(s:Sto):yp [] s=.ok (.lst (rls.map λr=>D.str (nmR r))) s:=by
 have c4:(4:Nat)<=cap:=by decide
 have st:zE [] []=[]:=rfl;simp only[yp,Mof,qZ,st,_F,_N,qc,xW,z4s,zo,zI,z2Q,Rb,_n,_av,Nat.reduceAdd,_f c4];rfl
open PySem.Builtin.Str
theorem zdr {s:Sto} {l:Nat} {f:FE} {ρ:Ev} (h:Pot s l) (hf:f ρ s=.ok (.loc l) s):∃r s',eOp dIx (zd yp zi) (zd zh (za f (za (eC (.int 4)) zi))) ρ s=.ok (.str (nmR r)) s'/\ve s s' l:=by
 obtain⟨x,s',e,a,b,dr⟩:=wD (f:=f) (g:=eC (.int 4)) (far:=4) (ρ:=ρ) h (by decide) (qN (by decide)) hf (by simp);have hr:x.toNat<rls.length:=by simp[rls];omega
 refine⟨rls[x.toNat],s',?_,dr⟩;have ix:=z0u (xs:=rls.map λr=>D.str (nmR r)) (d:=.str (nmR rls[x.toNat])) (s:=s') a (by simp[hr]);rw[xB,yI,zI,Rb,z6H,Rb,e,Rb,ix]
end Po
namespace Po
open L2 Dd Pm Pg Pn
theorem zbh{α:Type}{G:List (Nat×List D)}{all:List D}{body:D->Sto->R (Option D)}{s:Sto}(og:okG G all s)(g f:α->D):∀(l:List α)(acc:List D),(∀x∈l,body (g x) s=.ok (some (f x)) s)->acc.length+l.length<=cap->xA G all body (l.map g) acc s=.ok (acc++l.map f) s
 | [],acc,_,_=>by simp[xA,og] | x::xs,acc,hb,hl=>by
  have ih:=zbh (all:=all) og g f xs (acc++[f x]) (λy hy=>hb y (by simp[hy])) (by simp at hl ⊢;omega);have hc:acc.length<cap:=by simp at hl;omega
  rw[_j,xA,_f og,hb x (by simp),Rb];simp only[_f hc,ih];simp
theorem z9g{α:Type}{G:List (Nat×List D)}{fi:FI}{mp:List (Option Nat)}{fg:FG}{fe:FE}{ρ:Ev}{s:Sto}(g f:α->D)(ev:α->Ev)(l:List α) (hi:fi ρ s=.ok (l.map g,G) s)(og:okG G (l.map g) s)(hg:∀a∈l,fg (g a) (zW mp ρ) s=.ok (ev a) s)(he:∀a∈l,fe (ev a) s=.ok (f a) s)(hl:l.length<=cap): zK fi mp fg xJ fe ρ s=.ok (.lst (l.map f)) s:=by
 rw[jL,z15,hi,Rb];rw[zbh og g f l [] (by
  intro a ha;simp only[hg a ha,Rb];show (R.ok true s).bind _=_;simp[he a ha]) (by simpa using hl)];rfl
end Po
namespace Pr
open L2 Dd Pm Pg Pn Po
open PySem.W
theorem zdB{N:Nat}{lt:Nat->Nat->Bool}(tot:∀i j,i<N->j<N->i≠j->lt j i=!lt i j)(tr:∀i j k,lt i j=true->lt j k=true->lt i k=true)(hN:1<=N)(h:∀i j,i<j->j<N->lt i j=true): kev N lt (kas_count N (List.toArray (List.range N)))=some (N,List.toArray (List.range N)):=by
 have P:PmN N (List.toArray (List.range N)):=⟨by simp⟩;have at_:∀i,i<N->at0 (List.toArray (List.range N)) i=i:=λi hi=>by simp[at0,hi]
 obtain⟨m,e1,e2,e3,e4,e5⟩:=z3g tot tr P (N-1) 1 (_h _) (by omega) (λi j h1 h2=>by omega);have em:m=N:=by
  by_cases q:m<N
  ·exfalso;have z:=e5 (by omega);rw[at_ m q,at_ (m-1) (by omega),tot (m-1) m (by omega) q (by omega),h (m-1) m (by omega) q]at z;cases z
  ·omega
 unfold kas_count;rw[vG,e1];simp only[_J];rw[_f (by simpa using em),em];rfl
theorem range_getD{L:List (List Int)}:(List.range L.length).map (λi=>L.getD i [])=L:=by
 apply _a7;·simp
 ·intro i h1 h2;simp[_k,h2]
theorem zeR {L:List (List Int)} (nd:L.Nodup) (h:L.length<64\/Up L):∃p,ziN L=some p/\p.toList.Perm (List.range L.length)/\Up (p.toList.map λi=>L.getD i []):=by
 have tot:∀i j,i<L.length->j<L.length->i≠j->lexN (L.getD j []) (L.getD i [])=!lexN (L.getD i []) (L.getD j []):=λi j hi hj hij=>by
  refine z0f λz=>hij ?_;simp only[_k,_e hi,_e hj,_au]at z;exact (_aL nd).mp z
 have tr:∀i j k,lexN (L.getD i []) (L.getD j [])=true->lexN (L.getD j []) (L.getD k [])=true->lexN (L.getD i []) (L.getD k [])=true:=λi j k=>z2S;unfold ziN;by_cases q:L.length<2
 ·rw[_f q];refine⟨_,rfl,by simp,?_⟩;rw[show (List.toArray (List.range L.length)).toList=List.range L.length by simp,range_getD];match L,q with
  | [],_=>exact List.Pairwise.nil | [a],_=>exact List.pairwise_singleton _ _
 ·rw[_i q];by_cases q2:L.length<64
  ·rw[_f q2];obtain⟨p,e,h1,h2⟩:=z6G (N:=L.length) (lt:=λi j=>lexN (L.getD i []) (L.getD j [])) tot tr (by omega);exact⟨p,e,h1,by rw[Up,_aZ];exact h2⟩
  ·rw[_i q2];have hu:=h.resolve_left q2;rw[zdB tot tr (by omega) (λi j hij hj=>by
    have:=_bf.mp hu i j (by omega) hj hij;simpa[_k,show i<L.length by omega,hj] using this)];simp only;rw[_f trivial];refine⟨_,rfl,by simp,?_⟩;rw[show (List.toArray (List.range L.length)).toList=List.range L.length by simp,range_getD];exact hu
theorem z3S {α β:Type} {all:List D} {s:Sto} {fi2:D->Sto->R ItD} {fb:D->D->Sto->R D} (g:α->D) (g2:α->β->D) (l2:α->List β) (f:α->β->D):∀(l:List α) (acc:List D),(∀a∈l,fi2 (g a) s=.ok ((l2 a).map (g2 a),[]) s)->(∀a∈l,∀b∈l2 a,fb (g a) (g2 a b) s=.ok (f a b) s)->acc.length+(l.flatMap λa=>(l2 a).map (f a)).length<=cap-> z2F [] all (λd acc s=>(fi2 d s).bind λit2 s2=>xA it2.2 it2.1 (λd2 s=>(fb d d2 s).bind λd s3=>.ok (some d) s3) it2.1 acc s2) (l.map g) acc s=.ok (acc++l.flatMap λa=>(l2 a).map (f a)) s
 | [],acc,_,_,_=>by simp[z2F,okG] | x::xs,acc,h1,h2,hl=>by
  have og:okG [] all s:=by intro p hp;simp at hp
  rw[List.flatMap_cons,_al,_w]at hl;rw[_j,z2F,_f og,h1 x (by simp),Rb];have c:=ug (s:=s) (all:=(l2 x).map (g2 x)) (body:=λd2 s=>(fb (g x) d2 s).bind λd s3=>.ok (some d) s3) (g2 x) (f x) (λ_=>true) (l2 x) acc (λb hb=>by simp[h2 x (by simp) b hb]) (by omega);rw[c,Rb,List.filter_eq_self.mpr (by simp)];rw[z3S g g2 l2 f xs _ (λa ha=>h1 a (by simp[ha])) (λa ha=>h2 a (by simp[ha])) (by simp only[_al,_w];omega)];simp
theorem zan {α β:Type} {fi:FI} {mp:List (Option Nat)} {k1 k2:Nat} {fi2:FI} {fe:FE} {ρ:Ev} {s:Sto} (g:α->D) (g2:α->β->D) (l:List α) (l2:α->List β) (f:α->β->D) (hi:fi ρ s=.ok (l.map g,[]) s) (hi2:∀a∈l,fi2 ((zW mp ρ).set k1 (some (g a))) s=.ok ((l2 a).map (g2 a),[]) s) (he:∀a∈l,∀b∈l2 a,fe (((zW mp ρ).set k1 (some (g a))).set k2 (some (g2 a b))) s=.ok (f a b) s) (hl:(l.flatMap λa=>(l2 a).map (f a)).length<=cap):z54 fi mp k1 k2 fi2 fe ρ s=.ok (.lst (l.flatMap λa=>(l2 a).map (f a))) s:=by
 unfold z54 z75;rw[hi,Rb,z3S (fi2:=λd s=>fi2 ((zW mp ρ).set k1 (some d)) s) (fb:=λd d2 s=>fe (((zW mp ρ).set k1 (some d)).set k2 (some d2)) s) g g2 l2 f l [] hi2 he (by simpa using hl)];rfl
end Pr
namespace Dd
open L2 PySem.W Pm Pr
theorem zey{L:List (List Int)}(hu:Up L):zgk L (List.toArray (List.range L.length)):=by
 have nd:=hu.nodup;by_cases q:L.length<2;·exact .inl ⟨q,rfl⟩
 ·refine .inr (.inr ⟨by omega,zdB (λi j hi hj hij=>z0f λz=>hij ?_) (λi j k=>z2S) (by omega) λi j hij hj=>?_⟩)
  ·simp only[_k,_e hi,_e hj,_au]at z;exact (_aL nd).mp z
  ·have:=_bf.mp hu i j (by omega) hj hij;simpa[_k,show i<L.length by omega,hj] using this
open Classical in
def km:Mir:=λds s=>match ds with
 | [d]=>match listOf s d with
  | some xs=>match z0g xs with
   | some L=>if Up L/\(∀n∈L,n≠[])/\D.flat.flats xs=true then .ok (.loc s.length) (s++[xs]) else .no | none=>.no
  | none=>.no
 | _=>.no
section
variable {X:Cx}{E:XK}
theorem zbu:∃r,yN X (.builtin "sorted") r/\jJ X E r km:=⟨_,z7K,λH Y s ds vs Q r hd h=>by
 unfold km at h;split at h
 ·rename_i d;split at h
  ·rename_i xs ex;split at h
   ·rename_i L eL;split at h
    ·rename_i hp;obtain⟨v,rfl,dn⟩:=jV hd;obtain⟨a,ws,rfl,q1,q2⟩:=zF r ex dn;have pn:=jN eL q2;have hl:=z1O pn;have er:(List.toArray (List.range L.length)).toList.map (λi=>ws.getD i .non)=ws:=by
      apply _a7;·simp[hl]
      ·intro i h1 h2;simp[_k,h2]
     refine⟨a,ws,L,_,rfl,.inl q1,pn,hp.2.1,zey hp.1,λi hi=>?_,by simp[hl],?_⟩;·simp at hi;omega
     ·rw[er];exact zd7 r h hp.2.2 q2
    ·exact h.elim
   ·exact h.elim
  ·exact h.elim
 ·exact h.elim⟩
end
theorem zaH{F:List (List Int)}{s:Sto}(hu:Up F)(ne:∀v∈F,v≠[])(fl:D.flat.flats (F.map λv=>D.tup (v.map D.int))=true):km [.lst (F.map λv=>D.tup (v.map D.int))] s=.ok (.loc s.length) (s++[F.map λv=>D.tup (v.map D.int)]):=by
 have t:z0g (F.map λv=>D.tup (v.map D.int))=some F:=z11 F;simp only[km,listOf,t];rw[_f ⟨hu,ne,fl⟩]
end Dd
namespace Dd
open L2
section
variable {mg:Gm}{H H':Hp}{Y:List Addr}{s:Sto}{l:Nat}{a p b:Addr}{xs ys:List D}{kvs:List (Key×V)}{k:Int}{vs:List V}{d:D}{v:V}
theorem yX.layP{o:HO}(r:Rep mg H Y s)(hp:H p=none):yX mg H Y (upd H p o) Y s:= have d:DkS H Y (upd H p o) Y:=λa ha kvs e=>⟨ha,by rw[zn (show a≠p from λz=>r.notin hp (z ▸ ha))]at e;exact e⟩;⟨⟨r.len,r.nd,λl xs h=>let ⟨a,h1,h2⟩:=r.cell l xs h;⟨a,h1,h2.gen (.new hp) (λ_ _ q=>q) (zn (h2.ne hp)) (_y h1) r.own (λb vs _ q=>xh hp b _ q)⟩,r.flat,λb h=>r.own b (d.own h),d.uq r⟩,_cn _,λb u h _ _=>xh hp b u h,λa h1 h2=>absurd h1 h2,λa ha=>(r.mt a ha).imp (λh=>⟨h,(Kp.new hp).l a h⟩) λh=>⟨h,(Kp.new hp).c a h,λ_ _ e=>xh hp a _ e⟩,λb h=>z0S h,λb h=>.inl (d.own h)⟩
end
end Dd
namespace Dd
open L2 PySem.W
theorem zc5{α β:Type}{f:α->β}:∀{ys xs:List β},ys.Perm xs->∀l:List α,l.map f=xs->∃l':List α,l'.Perm l/\l'.map f=ys:=by
 intro ys xs p;induction p with
 | nil=>exact λl e=>⟨l,.refl _,e⟩ | cons x p ih=>
  intro l e;cases l with
  | nil=>simp at e | cons a l=>
   simp only[_j,_bi]at e;obtain⟨l',p',e'⟩:=ih l e.2;exact⟨a::l',p'.cons a,by simp[e',e.1]⟩
 | swap x y l0=>
  intro l e;match l,e with
  | a::b::l,e=>
   simp only[_j,_bi]at e;exact⟨b::a::l,.swap a b l,by simp[e.1,e.2.1,e.2.2]⟩
 | trans p1 p2 ih1 ih2=>
  intro l e;obtain⟨l2,q2,e2⟩:=ih2 l e;obtain⟨l1,q1,e1⟩:=ih1 l2 e2;exact⟨l1,q1.trans q2,e1⟩
structure jG{K:Type}(lt:K->K->Bool):Prop where
 irr:∀a,lt a a=false
 tot:∀a b,a≠b->lt b a=!lt a b
 tr:∀a b c,lt a b=true->lt b c=true->lt a c=true
open Pm
theorem zdL{K:Type}{lt:K->K->Bool}(Oo:jG lt):∀{xs ys:List K},xs.Perm ys->xs.Pairwise (λa b=>lt b a=false)->ys.Pairwise (λa b=>lt b a=false)->xs=ys
 | [],ys,p,_,_=>by rw[List.Perm.nil_eq p] | x::xs,[],p,_,_=>by simp at p | x::xs,y::ys,p,h1,h2=>by
  have hx:x∈y::ys:=p.mem_iff.mp (by simp);have hy:y∈x::xs:=p.mem_iff.mpr (by simp);rw[_bb]at h1 h2;have e:x=y:=by
   rcases _p.mp hx with e | hx;·exact e
   ·rcases _p.mp hy with e | hy;·exact e.symm
    ·refine _O λne=>?_;have a:=h1.1 y hy;have b:=h2.1 x hx;rw[Oo.tot y x λz=>ne z.symm,a]at b;cases b
  subst e;rw[zdL Oo ((List.perm_cons x).mp p) h1.2 h2.2]
def jR{K:Type}(lt:K->K->Bool)(L:List K):List K:=L.mergeSort λa b=>!lt b a
theorem jQ{K:Type}(lt:K->K->Bool)(L:List K):(jR lt L).Perm L:=List.mergeSort_perm L _
theorem jp{K:Type}{lt:K->K->Bool}(Oo:jG lt){L L':List K}(p:L'.Perm L)(h:L'.Pairwise λa b=>lt b a=false):jR lt L=L':=by
 refine zdL Oo ((jQ lt L).trans p.symm) ?_ h;have:=_b2 (le:=λa b=>!lt b a) (λa b c h1 h2=>by
  simp only[_dl]at h1 h2 ⊢;by_cases e1:a=b;·rw[e1];exact h2
  by_cases e2:b=c;·rw[<- e2];exact h1
  have q1:lt a b=true:=by rw[Oo.tot b a λz=>e1 z.symm,h1];rfl
  have q2:lt b c=true:=by rw[Oo.tot c b λz=>e2 z.symm,h2];rfl
  have q3:=Oo.tr _ _ _ q1 q2;have ne:a≠c:=λz=>by rw[z,Oo.irr]at q3;cases q3
  rw[Oo.tot a c ne,q3];rfl) (λa b=>by
  by_cases e:a=b;·rw[e,Oo.irr];rfl
  ·rw[Oo.tot a b e];cases lt a b<;>rfl) L;exact this.imp λh=>by simpa using h
theorem xt:jG lexN:=⟨z02,λ_ _=>z0f,λ_ _ _=>z2S⟩
section
variable {X:Cx}{E:XK}
theorem z4x{mg:Gm}{H:Hp}{Y:List Addr}:∀{zs:List V}{ps:List (List Int)},Paired (λv ns=>AtN H v ns) zs ps->zm mg H Y (ps.map λns=>.tup (ns.map D.int)) zs
 | _,_,.nil=>zm.nil | _,_,.cons (b:=p) ⟨b,e,h⟩ r=>by
  simp only[_j,zm];refine⟨_,_,rfl,?_,z4x r⟩;simp only[Den];exact⟨b,_,e,h,ux p⟩
end
end Dd
namespace Pg
open L2 Dd
@[simp] def uZ:FS:=(vU (zd zJ (za (zc 0) zi)))
@[simp] def uY:FS:=(vU (zd xG (za (zc 1) (za (eC (.int 4)) zi))))
@[simp] def uW:FS:=(vU (zd yS (za (zc 2) (za (eC (.int 1)) (za (eC (.int 8)) zi)))))
@[simp] def qd:FS:=(vh 3 (zd yh (za (zc 0) (za (zc 1) (za (zc 2) zi)))))
@[simp] def wW:FS:=(vh 4 (zbY (zc 3)))
@[simp] def qe:FS:=(wg (kC (za (zc 4) (za (zd km (za (zK (z6h (zc 3)) [some 4,some 3,none] (wH 2) (tOf (eOp dEq (z8s (zc 1) (zc 2)) (zc 0))) (zc 2)) zi)) zi))))
def jl:FS:=(zA uZ (zA uY (zA uW (zA qd (zA wW qe)))))
def xo:Mir:=Mof ["rule","size","number","steps","most"] 3 jl
end Pg
namespace Dd
open L2 PySem.W
section
theorem zbb(h:Int):SetTable.bits h<2 ^ 64:=by
 unfold SetTable.bits;have:=_bc h (show (0:Int)<2 ^ 64 by decide);have:=_a3 h (show (2 ^ 64:Int)≠0 by decide);omega
end
end Dd
set_option maxHeartbeats 3200000
namespace Dd
open L2 PySem.W
section
variable {prog:Program}{w:World}{A:Around}{E:Value->Shared->Prop}{s:Shared}
abbrev zaQ(w:World):Obj:={cls:=.type "set",dict:=none,data:=.set #[] 0 (.fresh 0 0 (!w.params.followText "set-order"))}
theorem zfU (x:Value) {Z:Value->Shared->Prop} (q:Z (.ref s.heap.objs.size) {s with heap:=s.heap.push (zaQ w)}):codeAny (model prog w) A (.call (.builtin "set.__new__") ⟨[.type "set",x],[]⟩) (wants Z E) s:=by
 have e0:checkBuiltinCall "set.__new__" ⟨[.type "set",x],[]⟩=pure ():=PySem.F.newCall_set_1 x;refine codeAny_of_tree (_a (_cB e0 (_b ⟨plainId_quiet PySem.F.plain_set_new _,_a2 PySem.F.entry_set_new ?_⟩)));rw[_bm PySem.F.plain_set_new _];have e1:=PySem.sub_set_self;cases s;unfold Builtin.«set.__new__» Builtin.Frozenset.newClass;wp_walk;refine _a6 (_b ?_);simp only[newObj];exact _a (wpAny_alloc (_b (_b q)))
end
section
variable {prog:Program}{w:World}{A:Around}{E:Value->Shared->Prop}{s:Shared}{a:Addr}{o:Obj}{ns:List Int}
structure zjm(prog:Program)(w:World)(A:Around)(a:Addr)(o:Obj)(ep:Nat)(os:List Value)(sl:Nat->Nat):Prop where
 z:sl 0=0
 nx:∀(i:Nat)(s:Shared)(Q:Option (Value×Nat)->Shared->Prop)(E:Value->Shared->Prop),i<=os.length->s.heap.get? a=some o->Q ((os[i]?).map λv=>(v,sl (i+1))) s->wpAny (model prog w) A (setNext a (sl i) i ep) Q E s
end
end Dd
set_option maxHeartbeats 800000
namespace Dd
open L2 PySem.W
namespace FS_
theorem nxt:Slot "set_iterator" "__next__" "set_iterator.__next__":=.of (owner:="set_iterator") (n:="__next__") (by rw[typeLookup_type,builtinLookup_eq_fast];kernel_rfl) (by decide +kernel) (by decide +kernel) (by decide +kernel) (by first | exact .inl (by decide +kernel) | exact .inr (by decide +kernel)) (by rw[isSubtype_type];kernel_rfl)
theorem itr:Slot "set_iterator" "__iter__" "set_iterator.__iter__":=.of (owner:="set_iterator") (n:="__iter__") (by rw[typeLookup_type,builtinLookup_eq_fast];kernel_rfl) (by decide +kernel) (by decide +kernel) (by decide +kernel) (by first | exact .inl (by decide +kernel) | exact .inr (by decide +kernel)) (by rw[isSubtype_type];kernel_rfl)
theorem enxt:entryFor table "set_iterator.__next__"=some Builtin.«set_iterator.__next__» := entryFor_of_tree (by kernel_rfl)
theorem eitr:entryFor table "set_iterator.__iter__"=some Builtin.«dict_keyiterator.__iter__» := entryFor_alias (id':="dict_keyiterator.__iter__") (by kernel_rfl) rfl (by decide +kernel) (by kernel_rfl)
theorem eset:entryFor table "set.__iter__"=some Builtin.«frozenset.__iter__» := entryFor_alias (id':="frozenset.__iter__") (by kernel_rfl) rfl (by decide +kernel) (by kernel_rfl)
theorem anxt(a:Value):argsOk "set_iterator.__next__" ⟨[a],[]⟩:=by unfold argsOk;kernel_rfl
theorem aitr(a:Value):argsOk "set_iterator.__iter__" ⟨[a],[]⟩:=by unfold argsOk;kernel_rfl
end FS_
section
variable {prog:Program}{w:World}{A:Around}{E:Value->Shared->Prop}{s:Shared}{a I:Addr}{o:Obj}{ns:List Int}
def z1A(h:Heap)(I a:Addr)(sl i n ep:Nat):Prop:=∃oi,h.get? I=some oi/\oi.cls=.type "set_iterator"/\oi.data=.fields #[.int (sl:Int) 0,.int (i:Int) 0,.ref a,.int (n:Int) 0,.int (ep:Int) 0]
theorem z1A.ty{sl i n ep:Nat}(h:z1A s.heap I a sl i n ep):s.TypeIs (.ref I) "set_iterator":=let ⟨o,g,c,_⟩:=h;⟨o,g,c⟩
theorem z1A.at_{h h':Heap}{sl i n ep:Nat}(x:z1A h I a sl i n ep)(e:∀o,h.get? I=some o->h'.get? I=some o):z1A h' I a sl i n ep:=let ⟨o,g,r⟩:=x;⟨o,e _ g,r⟩
theorem z1A.self_{sl i n ep:Nat}{Q:Value->Shared->Prop}(h:z1A s.heap I a sl i n ep)(q:Q (.ref I) s):wpAny (model prog w) A (pyIter (.ref I)) Q E s:= _cb h.ty FS_.itr (_I FS_.itr h.ty FS_.eitr (show wpAny _ _ (ret (.ref I)) _ _ s from _b ⟨_,rfl,"set_iterator",_,h.ty,FS_.nxt.lookup,q⟩) (FS_.aitr _))
section
variable {ep:Nat}{os:List Value}{sl:Nat->Nat}{es:Array (Int×Value)}{t:SetTable}
theorem z6u {i:Nat} {Q:Option Value->Shared->Prop} (hh:A.handled=none) (G:zjm prog w A.in1 a o ep os sl) (hd:o.data=.set es ep t) (hf:t.fits es.size=true) (hz:es.size=os.length) (it:z1A s.heap I a (sl i) i os.length ep) (ho:s.heap.get? a=some o) (hi:i<=os.length) (ne:a≠I) (q1:∀v h',os[i]? = some v->z1A h' I a (sl (i+1)) (i+1) os.length ep->(∀b u,b≠I->s.heap.get? b=some u->h'.get? b=some u)->Q (some v) {s with heap:=h'}) (q0:∀h',os[i]? = none->(∀b u,b≠I->s.heap.get? b=some u->h'.get? b=some u)->Q none {s with heap:=h'}):wpAny (model prog w) A (pyNext (.ref I)) Q E s:=by
 obtain⟨oi,gi,ci,di⟩:=id it;refine _a (_bA (_U it.ty FS_.nxt (_I FS_.nxt it.ty FS_.enxt ?_ (FS_.anxt _))));unfold Builtin.«set_iterator.__next__»;refine _a (m:=slotArgs "__next__" 0 _) (_b ?_);refine _a (_ca gi di ?_);show wpAny _ _ (setEntries a >>= _) _ _ s;refine _a (wpAny_setEntries_of ho hd hf ?_);rw[_i (by rw[hz];simp)];show wpAny _ _ (setNext a (sl i:Int).toNat (i:Int).toNat (ep:Int).toNat >>= _) _ _ s;rw[_aA,_aA,_aA];refine _a (G.nx i s _ _ hi ho ?_);cases e:os[i]? with
 | some v=>
  rw[_H];refine _a (_aU gi di (show 0<5 by decide) ?_);have g1:=_an (Obj.mapFields λx=>x.setIfInBounds 0 (rawInt ((sl (i+1):Nat):Int))) gi (by obtain⟨c0,d0,da,sl0⟩:=oi;simp only at di;subst di;rfl);have d1:(Obj.mapFields (λx=>x.setIfInBounds 0 (rawInt ((sl (i+1):Nat):Int))) oi).data=.fields #[.int ((sl (i+1):Nat):Int) 0,.int (i:Int) 0,.ref a,.int (os.length:Int) 0,.int (ep:Int) 0]:=by
   obtain⟨c0,d0,da,sl0⟩:=oi;simp only at di;subst di;rfl
  refine _a (_aU g1 d1 (show 1<5 by decide) ?_);have g2:=_an (Obj.mapFields λx=>x.setIfInBounds 1 (rawInt ((i:Int)+1))) g1 (by obtain⟨c0,d0,da,sl0⟩:=oi;simp only at di;subst di;rfl);refine _b ⟨_,rfl,_b ?_⟩;refine q1 v _ e ⟨_,g2,?_,?_⟩ λb u hb eb=>?_
  ·obtain⟨c0,d0,da,sl0⟩:=oi;simp only at ci di;subst ci di;rfl
  ·obtain⟨c0,d0,da,sl0⟩:=oi;simp only at di;subst di;rfl
  ·exact (_a5 _ _ hb.symm).trans ((_a5 _ _ hb.symm).trans eb) | none=>
  rw[Option.map_none];refine _a (_aU gi di (show 2<5 by decide) ?_);show wpAny _ _ (newExc (.type "StopIteration") [] >>= _) _ _ _;refine _a ?_;simp only[newExc,newTuple];refine _a (_G ?_ (by size_fits));refine _a (m:=firstArgMember _ _) (_cB (a:=Value.none) (by first | rfl | (simp only[firstArgMember];rfl)) ?_);refine _G ?_ (by size_fits);simp only[raiseNew];refine _a (_dn ?_);first | rw[show A.in1.handled=none from hh] | rw[hh]
  refine _a (_b (wpAny_throw ?_));refine _a (_bI (T:="StopIteration") (b:=true) ⟨_,_g _ rfl,rfl⟩ _cY ?_);exact _b (q0 _ e λb u hb eb=>_c _ (_c _ ((_a5 _ _ hb.symm).trans eb)))
theorem zc9 {Q:Bool->Shared->Prop} (hT:s.TypeIs (.ref a) "set") (q:Q false s):wpAny (model prog w) A (Builtin.List.listLengthHint (.ref a)) Q E s:=by
 unfold Builtin.List.listLengthHint;refine _a (wpAny_specialOf hT PySem.F.slot_set_len.lookup ?_);generalize hid:("set.__len__":String)=id0;wp_delta;rw[show splitId id0=some ("set","__len__") from by subst hid;decide +kernel];subst hid;refine _a (_bI (T:="set") (b:=true) hT (by rw[isSubtype_type];kernel_rfl) ?_);refine wpAny_ite_split (λz=>absurd z (by decide)) λ_=>wpAny_ite_split (λ_=>?_) λz=>absurd (by decide +kernel) z;exact _a (_b7 hT (_b q))
theorem zd4 {Q:Value->Shared->Prop} (hex:o.ExactSet) (hd:o.data=.set es ep t) (hf:t.fits es.size=true) (hp:t.plain=true) (ho:s.heap.get? a=some o) (q:Q (.ref s.heap.objs.size) {s with heap:=s.heap.push {cls:=.type "set_iterator",data:=.fields #[.int 0 0,.int 0 0,.ref a,.int (es.size:Int) 0,.int (ep:Int) 0]}}):wpAny (model prog w) A (pyIter (.ref a)) Q E s:=by
 have hT:s.TypeIs (.ref a) "set":=⟨o,ho,hex.1⟩;refine _cb hT PySem.F.slot_set_iter (_I PySem.F.slot_set_iter hT FS_.eset ?_ (PySem.F.args_set_iter_1 _));unfold Builtin.«frozenset.__iter__»;refine _a (m:=Builtin.Frozenset.slot0 "__iter__" ⟨[.ref a],[]⟩) (_b ?_);refine _a (show wpAny _ _ (Builtin.Frozenset.sizeOf a) _ _ _ from _a (wpAny_setEntries_of ho hd hf (_b ?_)));refine _a (show wpAny _ _ (setDrawn a) _ _ _ from ?_);unfold setDrawn;refine _a (_ap ho hd hf ?_);refine _a (show wpAny _ _ setsByText _ _ _ from _a (_a6 (_b ?_)));refine _b ?_;dsimp only;show wpAny _ _ (if (!(w.params.followText "set-order")&&(!t.plain&&decide (es.size > 1)))=true then _ else _) _ _ _;rw[hp];simp only[_aT,_cX,_cd,_s,_P];refine _a (_b (_a (wpAny_setEpoch_of ho hd hf ?_)));refine _a (_G (_b ⟨_,rfl,"set_iterator",_,⟨_,_g _ rfl,rfl⟩,FS_.nxt.lookup,?_⟩));simpa[rawInt] using q
theorem zei{os:List Value}{sl:Nat->Nat}(G:∀A:Around,zjm prog w A a o ep os sl)(hex:o.ExactSet)(hd:o.data=.set es ep t)(hf:t.fits es.size=true)(hp:t.plain=true)(hz:es.size=os.length):KdlSrc prog w "set" a a os.length (λi v=>os[i]? = some v) (λh=>h.get? a=some o) where
 type:=λ_ ho=>⟨o,ho,hex.1⟩;there:=λ_ ho=>⟨_l ho,_l ho⟩;keep:=λ_ _ ho k=>k a (.inl rfl) o ho;notList:=by decide
 notTuple:=by decide
 hint:=λ_ _ s _ ho q=>zc9 ⟨o,ho,hex.1⟩ q;iter:=λA s hh ho=>by
  have ne:a≠s.heap.objs.size:=_t (_l ho);refine⟨_,λi h=>z1A h s.heap.objs.size a (sl i) i os.length ep/\h.get? a=some o,λE Q q=>zd4 hex hd hf hp ho q,⟨λb hb=>by simp at hb;simp[hb],λi h h' st k=>⟨st.1.at_ λo e=>k _ (by simp) o e,k a (by simp) o st.2⟩,λi s1 Q E hi st q=>?_,λs1 Q E st q=>?_,λi s1 Q E st q=>st.1.self_ q⟩,⟨⟨_,_g _ rfl,rfl,by rw[(G A).z,hz];rfl⟩,_c _ ho⟩⟩
  ·refine z6u hh (G A.in1) hd hf hz st.1 st.2 (by omega) ne (λv h' e it k=>?_) λh' e=>?_;·exact q v h' s1.toks e ⟨it,k a o ne st.2⟩ λb u hb=>k b u (by simpa using hb)
   ·rw[_e hi]at e;cases e
  ·refine z6u hh (G A.in1) hd hf hz st.1 st.2 (_h _) ne (λv h' e=>?_) λh' e k=>?_;·simp at e
   ·exact q h' s1.toks λb u hb=>k b u (by simpa using hb)
end
theorem z6g {T:String} {r d:Addr} {n:Nat} {P:Nat->Value->Prop} {OK:Heap->Prop} {Z:List Value->Shared->Prop} (K:KdlSrc prog w T r d n P OK) (hh:A.handled=none) (ok:OK s.heap) (hn:n<=sizeLine) (z:∀(h':Heap) (tk:Nat) (acc:Array Value),s.heap.objs.size<h'.objs.size->(∀b u,s.heap.get? b=some u->h'.get? b=some u)->ItemsOf P acc n->Z acc.toList {s with heap:=h',toks:=tk}):wpAny (model prog w) A (collect (.ref r)) Z E s:=by
 have lt:=K.there _ ok;let Fin2:Result->Shared->Prop:=λq s2=>∃h' tk acc c,q=.ok (.ret (.ref s.heap.objs.size))/\s2={s with heap:=h',toks:=tk}/\(∀b u,s.heap.get? b=some u->h'.get? b=some u)/\h'.get? s.heap.objs.size=some {cls:=.type "list",dict:=none,data:=.seq acc c,slots:=#[]}/\ItemsOf P acc n;have run:=kdl_extend (A:=A) (s:={s with heap:=s.heap.push {cls:=.type "list",data:=.seq ([]:List Value).toArray}}) (R:=Fin2) K hh (K.keep _ _ ok λb _ u e=>_c _ e) s.heap.objs.size (_b5 lt.1) (_b5 lt.2) (.ref s.heap.objs.size) 0 (_g _ rfl) (λh' tk acc c k g it=>⟨h',tk,acc,c,rfl,rfl,λb u e=>k b u (_t (_l e)) (_c _ e),g,it⟩) hn;have last:∀q s2,Fin2 q s2->∃h' tk acc c,q=.ok (.ret (.ref s.heap.objs.size))/\s2={s with heap:=h',toks:=tk}/\h'.get? s.heap.objs.size=some {cls:=.type "list",dict:=none,data:=.seq acc c,slots:=#[]}/\Z acc.toList s2:=λq s2 ⟨h',tk,acc,c,e1,e2,k,g,it⟩=>⟨h',tk,acc,c,e1,e2,g,by rw[e2];exact z h' tk acc (_l g) k it⟩;refine _a (wpAny_runValue (_a2 entry_proto_collect' ?_));rw[_bm PySem.F.plain_proto_collect _];refine _a (show wpAny _ A.in1 (newList []) _ _ s from _G (_b ⟨plainId_quiet PySem.F.plain_list_iadd _,_a2 entry_list_iadd' ?_⟩));rw[_bm PySem.F.plain_list_iadd _];refine _D (show wpAny _ A.in1 (Builtin.List.listExtendWith (.ref s.heap.objs.size) (.ref r) (.ref s.heap.objs.size)) _ _ _ from run) (λfin s2 x=>?_) λe s2 x=>?_;·cases fin with
  | done f=>
   obtain⟨h',tk,acc,c,e1,e2,g,zz⟩:=last _ _ x;cases e1;subst e2;exact _a (wpAny_load g (_b zz)) | again c1=>
   refine⟨x.1,_bG x.2 λq s3 y=>?_⟩;obtain⟨h',tk,acc,c,e1,e2,g,zz⟩:=last _ _ y;subst e1 e2;exact _a (wpAny_load g (_b zz))
 ·obtain⟨_,_,_,_,e1,_⟩:=x;cases e1
end
end Dd
namespace Dd
open L2
open PySem.W
abbrev Ris(xs:Array Nat):Prop:=xs.toList.Pairwise (· < ·)
theorem Ris.at_{xs:Array Nat}(h:Ris xs){i k:Nat}(hk:k<xs.size)(hi:i<k):xs[i]'(_cS hi hk)<xs[k]:=by
 have:=_bf.mp h i k (by simpa using _cS hi hk) (by simpa using hk) hi;simpa using this
theorem z3y{xs:Array Nat}{j:Nat}(hr:Ris xs):∀(f lo hi:Nat),lo<=hi->hi<=xs.size->hi-lo<=f->(∀i (h:i<xs.size),i<lo->xs[i]<j)->(∀i (h:i<xs.size),hi<=i->j<=xs[i])-> SetTable.below.go xs j f lo hi<=xs.size/\(∀i (h:i<xs.size),i<SetTable.below.go xs j f lo hi->xs[i]<j)/\(∀i (h:i<xs.size),SetTable.below.go xs j f lo hi<=i->j<=xs[i])
 | 0,lo,hi,h1,h2,h3,h4,h5=>by
  have:lo=hi:=by omega
  subst this;exact⟨h2,h4,h5⟩ | f+1,lo,hi,h1,h2,h3,h4,h5=>by
  unfold SetTable.below.go;by_cases c:lo<hi
  ·rw[_f c];have hm:(lo+hi) / 2<xs.size:=by omega
   have eg:xs.getD ((lo+hi) / 2) j=xs[(lo+hi) / 2]:=by simp[hm]
   simp only[eg];by_cases d:xs[(lo+hi) / 2]<j
   ·rw[_f d];refine z3y hr f _ hi (by omega) h2 (by omega) (λi h hi2=>?_) h5;rcases Nat.lt_or_ge i ((lo+hi) / 2) with z | z;·exact _cS (hr.at_ hm z) d
    ·have:i=(lo+hi) / 2:=by omega
     subst this;exact d
   ·rw[_i d];refine z3y hr f lo _ (by omega) (by omega) (by omega) h4 λi h hi2=>?_;rcases Nat.lt_or_ge ((lo+hi) / 2) i with z | z;·exact _ad (_dx d) (_b4 (hr.at_ h z))
    ·have:i=(lo+hi) / 2:=by omega
     subst this;exact _dx d
  ·rw[_i c];have:lo=hi:=by omega
   subst this;exact⟨h2,h4,h5⟩
theorem z0b{xs:Array Nat}(hr:Ris xs)(j:Nat):SetTable.below xs j<=xs.size/\(∀i (h:i<xs.size),i<SetTable.below xs j->xs[i]<j)/\(∀i (h:i<xs.size),SetTable.below xs j<=i->j<=xs[i]):= z3y hr xs.size 0 xs.size (_Y _) (_h _) (by omega) (λi h z=>absurd z (_bW _)) λi h z=>absurd z (by omega)
theorem zjc(j:Nat):SetTable.has #[] j=false:=rfl
section
variable {t:SetTable}(hd:t.dummies=#[])
include hd
theorem z4d{j i:Nat}(h:t.slot j=.live i):∃hi:i<t.place.size,t.place[i]=j:=by
 unfold SetTable.slot at h;simp only[hd,zjc]at h;split at h
 ·rename_i e;injection h with h;subst h;have:=eq_of_beq e;obtain⟨h1,h2⟩:=Array.getElem?_eq_some_iff.mp this;exact⟨h1,h2⟩
 ·simp at h
theorem z9Y{j:Nat}(h:t.slot j≠.empty):∃i,t.slot j=.live i:=by
 unfold SetTable.slot at h ⊢;simp only[hd,zjc]at h ⊢;split;·exact⟨_,rfl⟩
 ·rename_i e;rw[_i e]at h;simp at h
theorem ze4(hr:Ris t.place){j:Nat}(h:t.slot j=.empty):∀i (hi:i<t.place.size),t.place[i]≠j:=λi hi z=>by
 obtain⟨b1,b2,b3⟩:=z0b hr j;have e:SetTable.below t.place j=i:=by
  rcases Nat.lt_trichotomy i (SetTable.below t.place j) with q | q | q;·have:=b2 i hi q;omega
  ·exact q.symm
  ·have b4:=b3 (SetTable.below t.place j) (by omega) (_h _);have:=hr.at_ hi q;omega
 unfold SetTable.slot at h;simp only[e]at h;rw[_f (by rw[Array.getElem?_eq_getElem hi,z];exact beq_self_eq_true _)]at h;cases h
theorem zjo(j:Nat):t.put j=({t with place:=SetTable.insertAt t.place (SetTable.below t.place j) j},SetTable.below t.place j):=by
 unfold SetTable.put;simp only[hd,zjc];obtain⟨mk,pl,du,fi,le,mo,pn⟩:=t;simp only at hd;subst hd;rfl
theorem zeS(hr:Ris t.place){j:Nat}(h:t.slot j=.empty):Ris (SetTable.insertAt t.place (SetTable.below t.place j) j):=by
 obtain⟨b1,b2,b3⟩:=z0b hr j;have ne:=ze4 hd hr h;show (SetTable.insertAt t.place (SetTable.below t.place j) j).toList.Pairwise (· < ·);rw[_bQ];generalize SetTable.below t.place j=p at *;have lt:∀a∈t.place.toList.take p,a<j:=λa ha=>by
  obtain⟨i,hi,rfl⟩:=_z.mp ha;have h1:i<t.place.size/\i<p:=by
   rw[_cm]at hi;simp at hi;omega
  have:=b2 i h1.1 h1.2;simpa using this
 have gt:∀a∈t.place.toList.drop p,j<a:=λa ha=>by
  obtain⟨i,hi,rfl⟩:=_z.mp ha;rw[_bH]at hi;have h1:p+i<t.place.size:=by simp at hi;omega
  have h2:=b3 (p+i) h1 (by omega);have h3:=ne (p+i) h1;have:j<t.place[p+i]:=by omega
  simpa using this
 refine List.pairwise_append.mpr ⟨List.Pairwise.sublist (_bE _ _) hr,_bb.mpr ⟨gt,List.Pairwise.sublist (List.drop_sublist _ _) hr⟩,λa ha b hb=>?_⟩;rcases _p.mp hb with q | q;·rw[q];exact lt a ha
 ·exact _cS (lt a ha) (gt b q)
end
def orb(m:Nat):Nat->Nat->Nat
 | 0,i=>i | n+1,i=>orb m n ((i*5+1) % m)
def zjd(m:Nat):Nat->Nat->List Nat
 | 0,_=>[] | n+1,i=>i::zjd m n ((i*5+1) % m)
theorem z6x{m e:Nat}:∀{n i:Nat},e∈zjd m n i->∃k,k<n/\orb m k i=e
 | 0,_,h=>by cases h | n+1,i,h=>by
  rcases _p.mp h with rfl | h;·exact⟨0,by omega,rfl⟩
  ·obtain⟨k,h1,h2⟩:=z6x h;exact⟨k+1,by omega,h2⟩
theorem z2K(m:Nat):∀(a b i:Nat),orb m (a+b) i=orb m b (orb m a i)
 | 0,b,i=>by rw[_av];rfl | a+1,b,i=>by
  rw[show a+1+b=(a+b)+1 by omega];exact z2K m a b _
def okM(m:Nat):Bool:=(List.range m).all (λe=>(zjd m m 0).contains e)&&orb m m 0==0
theorem zlw:okM 8=true:=by decide +kernel
theorem zjD:okM 32=true:=by decide +kernel
theorem zhh:okM 128=true:=by decide +kernel
theorem zec{m:Nat}(h:okM m=true){i e:Nat}(hi:i<m)(he:e<m):∃n,n<m/\orb m n i=e:=by
 unfold okM at h;rw[_T,_V]at h;obtain⟨h1,h2⟩:=h;have z:=eq_of_beq h2;have key:∀e,e<m->∃k,k<m/\orb m k 0=e:=λe he=>z6x (List.contains_iff_mem.mp (h1 e (_Q.mpr he)));obtain⟨a,a1,a2⟩:=key i hi;obtain⟨b,b1,b2⟩:=key e he;by_cases c:a<=b
 ·refine⟨b-a,by omega,?_⟩;rw[<- a2,<- z2K,show a+(b-a)=b by omega,b2]
 ·refine⟨m-a+b,by omega,?_⟩;rw[<- a2,<- z2K,show a+(m-a+b)=m+b by omega,z2K,z,b2]
def kZ(mask:Nat):Nat->Nat->Nat->Nat×Nat
 | 0,i,p=>(i,p) | n+1,i,p=>kZ mask n (SetTable.leap mask i p).1 (SetTable.leap mask i p).2
theorem z9F(mask:Nat):∀n i,kZ mask n i 0=(orb (mask+1) n i,0)
 | 0,i=>rfl | n+1,i=>by
  show kZ mask n ((i*5+1+0 / 32) % (mask+1)) (0 / 32)=_;rw[Nat.zero_div,Nat.add_zero,z9F mask n];rfl
theorem z56(mask:Nat):∀a b i p,kZ mask (a+b) i p=kZ mask b (kZ mask a i p).1 (kZ mask a i p).2
 | 0,b,i,p=>by rw[_av];rfl | a+1,b,i,p=>by
  rw[show a+1+b=(a+b)+1 by omega];exact z56 mask a b _ _
theorem z9s(mask:Nat):∀n i p,i<mask+1->p<32 ^ n->(kZ mask n i p).2=0/\(kZ mask n i p).1<mask+1
 | 0,i,p,hi,hp=>⟨show p=0 by simpa using hp,hi⟩ | n+1,i,p,hi,hp=>by
  refine z9s mask n _ _ (Nat.mod_lt _ (by omega)) ?_;show p / 32<32 ^ n;rw[Nat.div_lt_iff_lt_mul (by decide)];rw[_dW]at hp;exact hp
theorem z57{mask:Nat}(h:okM (mask+1)=true){i p e:Nat}(hi:i<mask+1)(hp:p<2 ^ 64)(he:e<mask+1):∃r,r<mask+14/\(kZ mask r i p).1=e:=by
 obtain⟨h1,h2⟩:=z9s mask 13 i p hi (_v hp (by decide));obtain⟨n,n1,n2⟩:=zec h h2 he;refine⟨13+n,by omega,?_⟩;rw[z56,h1,z9F];exact n2
def Emp(t:SetTable):Nat->SetTable.Probe->Prop
 | 0,p=>t.slot p.j=.empty | n+1,p=>t.slot p.j=.empty\/Emp t n (t.advance p)
theorem Emp.up{t:SetTable}:∀{n:Nat}{p:SetTable.Probe},Emp t n p->Emp t (n+1) p
 | 0,p,h=>.inl h | n+1,p,h=>h.elim .inl λh=>.inr h.up
theorem Emp.mono{t:SetTable}{n m:Nat}{p:SetTable.Probe}(h:Emp t n p)(hl:n<=m):Emp t m p:=by
 obtain⟨k,rfl⟩:=Nat.exists_eq_add_of_le hl;induction k with
 | zero=>exact h | succ k ih=>exact (ih (by omega)).up
theorem zgI{t:SetTable}{p:SetTable.Probe}(h:p.dummy=none):(t.advance p).dummy=none:=by
 unfold SetTable.advance;split<;>exact h
section
variable {t:SetTable}(hd:t.dummies=#[])(hashAt:Nat->Int)(h:Int)
include hd
theorem zdt:∀(n fuel:Nat)(p:SetTable.Probe),n<fuel->Emp t n p->p.dummy=none-> (∃j,SetTable.probe.go t hashAt h fuel p=some (.empty j none)/\t.slot j=.empty)\/∃j i next n',SetTable.probe.go t hashAt h fuel p=some (.candidate j i next)/\t.slot j=.live i/\Emp t n' next/\n'<n/\next.dummy=none
 | n,0,p,hf,_,_=>absurd hf (_bW _) | n,fuel+1,p,hf,he,h0=>by
  unfold SetTable.probe.go;by_cases z:t.slot p.j=.empty
  ·rw[z];exact .inl ⟨p.j,by rw[h0],z⟩
  ·obtain⟨i,e⟩:=z9Y hd z;rw[e];simp only;match n,he,hf with
   | 0,he,_=>exact absurd he z | n+1,he,hf=>
    have he':=he.resolve_left z;by_cases q:(hashAt i==h)=true
    ·rw[_f q];exact .inr ⟨p.j,i,_,n,rfl,e,he',by omega,zgI h0⟩
    ·rw[_i q];rcases zdt n fuel (t.advance p) (by omega) he' (zgI h0) with g | ⟨j,i2,nx,n',g1,g2,g3,g4,g5⟩;·exact .inl g
     ·exact .inr ⟨j,i2,nx,n',g1,g2,g3,by omega,g5⟩
end
def nxt(t:SetTable)(p:SetTable.Probe):SetTable.Probe:={p with j:=(SetTable.leap t.mask p.i p.perturb).1,more:=SetTable.runEnd t.mask (SetTable.leap t.mask p.i p.perturb).1-(SetTable.leap t.mask p.i p.perturb).1,i:=(SetTable.leap t.mask p.i p.perturb).1,perturb:=(SetTable.leap t.mask p.i p.perturb).2}
theorem zam{t:SetTable}{n:Nat}:∀(k:Nat)(p:SetTable.Probe),p.more=k->Emp t n (nxt t p)->Emp t (n+k+1) p
 | 0,p,hk,h=>.inr (by
  have e:t.advance p=nxt t p:=by
   unfold SetTable.advance;rw[_i (by omega)];rfl
  rw[e];exact h) | k+1,p,hk,h=>.inr (by
  have e:t.advance p={p with j:=p.j+1,more:=p.more-1}:=by
   unfold SetTable.advance;rw[_f (by omega)]
  rw[e];exact zam k _ (by show p.more-1=k;omega) h)
theorem z3J{t:SetTable}{e:Nat}(he:t.slot e=.empty):∀(r:Nat)(p:SetTable.Probe),p.j=p.i->p.more=SetTable.runEnd t.mask p.i-p.i->(kZ t.mask r p.i p.perturb).1=e->Emp t (10*r) p
 | 0,p,hj,hm,h=>by
  show t.slot p.j=.empty;rw[hj,show p.i=e from h];exact he | r+1,p,hj,hm,h=>by
  have m9:p.more<=9:=by
   rw[hm];unfold SetTable.runEnd;split<;>omega
  exact (zam p.more p rfl (z3J he r (nxt t p) rfl rfl h)).mono (by omega)
theorem za7 {t:SetTable} (hd:t.dummies=#[]) (hs:t.place.size<=t.mask):∃e,e<t.mask+1/\t.slot e=.empty:=by
 refine _O λz=>?_;have all:∀e,e<t.mask+1->e∈t.place.toList:=λe he=>by
  obtain⟨i,h⟩:=z9Y hd λq=>z ⟨e,he,q⟩;obtain⟨hi,h⟩:=z4d hd h;rw[<- h];simp
 have:=_cu (l₁:=List.range (t.mask+1)) (l₂:=t.place.toList) _ct λe he=>all e (_Q.mp he);simp at this;omega
theorem z8Y {t:SetTable} (hd:t.dummies=#[]) (hs:t.place.size<=t.mask) (hm:okM (t.mask+1)=true) (h:Int):Emp t (10*(t.mask+14)) (t.probeStart h):=by
 obtain⟨e,he,z⟩:=za7 hd hs;obtain⟨r,r1,r2⟩:=z57 hm (i:=SetTable.bits h % (t.mask+1)) (p:=SetTable.bits h) (Nat.mod_lt _ (by omega)) (zbb h) he;exact (z3J z r (t.probeStart h) rfl rfl r2).mono (by omega)
theorem z8J{mask:Nat}{owner:Array (Option Nat)}{e:Nat}(he:owner.getD e (some 0)=none):∀(r fuel i p:Nat),r<fuel->(kZ mask r i p).1=e->∃j,SetTable.layClean.free mask owner fuel i p=some j/\owner.getD j (some 0)=none
 | r,0,i,p,hf,_=>absurd hf (_bW _) | r,fuel+1,i,p,hf,h=>by
  unfold SetTable.layClean.free;cases q:(List.range (SetTable.runEnd mask i+1-i)).find? λk=>(owner.getD (i+k) (some 0)).isNone with
  | some k=>
   refine⟨i+k,rfl,?_⟩;have:=List.find?_some q;simpa using this | none=> match r,h with
   | 0,h=>
    exfalso;have:=List.find?_eq_none.mp q 0 (_Q.mpr (by unfold SetTable.runEnd;split<;>omega));rw[Nat.add_zero,show i=e from h,he]at this;exact this rfl | r+1,h=>exact z8J he r fuel _ _ (by omega) h
structure zdx(mask:Nat)(owner:Array (Option Nat))(k:Nat):Prop where
 sz:owner.size=mask+1
 lt:∀j v,owner.getD j none=some v->v<k
 al:∀v,v<k->∃j,owner.getD j none=some v
 un:∀i j v,owner.getD i none=some v->owner.getD j none=some v->i=j
theorem getD_in{owner:Array (Option Nat)}{j v:Nat}(h:owner.getD j none=some v):j<owner.size:=by
 refine _O λz=>?_;simp[Array.getD,z]at h
theorem zfM{owner:Array (Option Nat)}{j:Nat}(h:owner.getD j (some 0)=none):j<owner.size/\owner.getD j none=none:=by
 by_cases z:j<owner.size
 ·simp[Array.getD,z]at h ⊢;exact h
 ·simp[Array.getD,z]at h
theorem zdx.room {mask k:Nat} {owner:Array (Option Nat)} (Oo:zdx mask owner k) (hk:k<=mask):∃e,e<mask+1/\owner.getD e (some 0)=none:=by
 refine _O λz=>?_;have all:∀e,e<mask+1->∃v,owner.getD e none=some v:=λe he=>by cases q:owner.getD e none with
  | some v=>exact⟨v,rfl⟩ | none=>
   refine absurd ⟨e,he,?_⟩ z;have hs:e<owner.size:=by rw[Oo.sz];exact he
   simp[Array.getD,hs]at q ⊢;exact q
 have:=_cu (l₁:=(List.range (mask+1)).map λe=>(owner.getD e none).getD 0) (l₂:=List.range k) (by
  refine _aZ.mpr (List.Pairwise.imp_of_mem (λ{a b} ha hb ne h=>?_) _ct);obtain⟨u,hu⟩:=all a (_Q.mp ha);obtain⟨v,hv⟩:=all b (_Q.mp hb);rw[hu,hv]at h;simp only[_au]at h;exact ne (Oo.un a b u hu (by rw[hv,h]))) (λx hx=>by
  obtain⟨e,he,rfl⟩:=_A.mp hx;obtain⟨v,hv⟩:=all e (_Q.mp he);rw[hv];exact _Q.mpr (Oo.lt e v hv));simp at this;omega
theorem zdx.put{mask k j:Nat}{owner:Array (Option Nat)}(Oo:zdx mask owner k)(hj:owner.getD j (some 0)=none):zdx mask (owner.setIfInBounds j (some k)) (k+1):=by
 obtain⟨h1,h2⟩:=zfM hj;have g:∀i,(owner.setIfInBounds j (some k)).getD i none=if i=j then some k else owner.getD i none:=λi=>by
  by_cases e:i=j
  ·subst e;simp[Array.getD,h1]
  ·rw[_i e];simp only[Array.getD,Array.size_setIfInBounds];split
   ·rename_i hi;have hi':i<owner.size:=hi;show (owner.setIfInBounds j (some k))[i]'(by simpa using hi')=owner[i];rw[Array.getElem_setIfInBounds hi',_i (λz:j=i=>e z.symm)]
   ·rfl
 refine⟨by simp[Oo.sz],λi v h=>?_,λv hv=>?_,λa b v ha hb=>?_⟩
 ·rw[g]at h;split at h;·injection h with h;omega
  ·have:=Oo.lt i v h;omega
 ·by_cases e:v=k;·exact⟨j,by rw[g,_f rfl,e]⟩
  ·obtain⟨i,hi⟩:=Oo.al v (by omega);refine⟨i,?_⟩;rw[g,_i (λz=>by rw[z,h2]at hi;cases hi)];exact hi
 ·rw[g]at ha hb;split at ha
  ·rename_i ea;injection ha with ha;subst ha;split at hb;·rename_i eb;rw[ea,eb]
   ·have:=Oo.lt b _ hb;omega
  ·split at hb
   ·injection hb with hb;subst hb;have:=Oo.lt a _ ha;omega
   ·exact Oo.un a b v ha hb
theorem z6A {mask:Nat} (hm:okM (mask+1)=true):∀(hs:List Int) (owner:Array (Option Nat)) (k:Nat),zdx mask owner k->k+hs.length<=mask->∃owner',hs.foldl (init:=some (owner,k)) (λacc h=>do
  let (owner,k) <- acc let j <- SetTable.layClean.free mask owner (SetTable.turns mask) (SetTable.bits h % (mask+1)) (SetTable.bits h)
  pure (owner.setIfInBounds j (some k),k+1))=some (owner',k+hs.length)/\zdx mask owner' (k+hs.length)
 | [],owner,k,Oo,_=>⟨owner,rfl,Oo⟩ | h::hs,owner,k,Oo,hk=>by
  rw[_n]at hk;obtain⟨e,he,z⟩:=Oo.room (by omega);obtain⟨r,r1,r2⟩:=z57 hm (i:=SetTable.bits h % (mask+1)) (p:=SetTable.bits h) (Nat.mod_lt _ (by omega)) (zbb h) he;obtain⟨j,j1,j2⟩:=z8J z r (SetTable.turns mask) (SetTable.bits h % (mask+1)) (SetTable.bits h) (by unfold SetTable.turns;omega) r2;obtain⟨o',f1,f2⟩:=z6A hm hs (owner.setIfInBounds j (some k)) (k+1) (Oo.put j2) (by omega);refine⟨o',?_,?_⟩
  ·rw[_a1,show k+(h::hs).length=k+1+hs.length by simp;omega,<- f1];congr 1;show ((SetTable.layClean.free mask owner (SetTable.turns mask) (SetTable.bits h % (mask+1)) (SetTable.bits h)).bind _)=_;rw[j1];rfl
  ·rw[show k+(h::hs).length=k+1+hs.length by simp;omega];exact f2
theorem zl9 (mask:Nat):zdx mask (Array.replicate (mask+1) none) 0:=by
 have g:∀j,(Array.replicate (mask+1) (none:Option Nat)).getD j none=none:=λj=>by
  simp only[Array.getD];split<;>simp
 exact⟨by simp,(λj v h=>by rw[g]at h;cases h),λv h=>absurd h (_bW _),λi j v h=>by rw[g]at h;cases h⟩
theorem zeU{mask fi mo:Nat}{le pn:Bool}{hashes:Array Int}(hm:okM (mask+1)=true)(hn:hashes.size<=mask): ∃place order,SetTable.laid mask fi mo le pn hashes=some ({mask:=mask,place:=place,dummies:=#[],finger:=fi,led:=le,moves:=mo,plain:=pn},order)/\Ris place/\place.size=hashes.size/\order.toList.Perm (List.range hashes.size)/\order.size=hashes.size:=by
 obtain⟨owner,f,Oo⟩:=z6A hm hashes.toList (Array.replicate (mask+1) none) 0 (zl9 mask) (by simpa using hn);rw[_av]at f Oo;have lc:SetTable.layClean mask hashes=some owner:=by
  unfold SetTable.layClean;rw[<- Array.foldl_toList,f];rfl
 rw[show hashes.toList.length=hashes.size by simp]at Oo;have fs:∀{j:Nat}{b:Nat×Nat},(owner.getD j none).map (λv=>(j,v))=some b->b.1=j/\owner.getD j none=some b.2:=λ{j b} h=>by
  rw[_x]at h;obtain⟨v,hv,rfl⟩:=h;exact⟨rfl,hv⟩
 have ris:(((List.range (mask+1)).filterMap λj=>(owner.getD j none).map (j,·)).map (·.1)).Pairwise (· < ·):=by
  rw[_aZ,List.pairwise_filterMap];refine _ce.imp λ{a b} lt x hx y hy=>?_;rw[(fs hx).1,(fs hy).1];exact lt
 have perm:(((List.range (mask+1)).filterMap λj=>(owner.getD j none).map (j,·)).map (·.2)).Perm (List.range hashes.size):=by
  refine (List.perm_ext_iff_of_nodup ?_ _ct).mpr λv=>?_
  ·show List.Pairwise _ _;rw[_aZ,List.pairwise_filterMap];refine _ce.imp λ{a b} lt x hx y hy e=>?_;have h1:=(fs hx).2;have h2:=(fs hy).2;rw[e]at h1;exact _t lt (Oo.un a b _ h1 h2)
  ·rw[_A,_Q];constructor
   ·rintro⟨b,hb,rfl⟩;obtain⟨j,_,hj⟩:=_bs.mp hb;exact Oo.lt j _ (fs hj).2
   ·intro hv;obtain⟨j,hj⟩:=Oo.al v hv;refine⟨(j,v),_bs.mpr ⟨j,_Q.mpr (by have:=getD_in hj;rw[Oo.sz]at this;exact this),by rw[hj];rfl⟩,rfl⟩
 have len:=perm.length_eq;rw[_w,List.length_range]at len;refine⟨(((List.range (mask+1)).filterMap λj=>(owner.getD j none).map (j,·)).map (·.1)).toArray,(((List.range (mask+1)).filterMap λj=>(owner.getD j none).map (j,·)).map (·.2)).toArray,?_,ris,by simpa using len,perm,by simpa using len⟩;unfold SetTable.laid;rw[lc];rfl
section
variable {prog:Program}{w:World}{A:Around}{E:Value->Shared->Prop}{s:Shared}
theorem int_is{k:Int}{v:Value}(h:(intKind prog w).is k v=true):∃t,v=.int k t:=Value.isInt_shape h
theorem items_int{ks:List Int}{vs:List Value}(h:ItemsAre (intKind prog w) ks vs):∀v∈vs,∃k t,v=.int k t:=by induction h with
 | nil=>intro v hv;cases hv | cons h1 _ ih=>
  intro v hv;rcases _p.mp hv with rfl | hv;·obtain⟨t,e⟩:=int_is h1;exact⟨_,t,e⟩
  ·exact ih v hv
theorem z8A{ks:List Int}{a:Addr}{Q:Bool->Shared->Prop}(hk:IsTupleKey (intKind prog w) s.heap ks a)(q:Q true s):wpAny (model prog w) A (hashByValue 8 (.ref a)) Q E s:=by
 have hT:=hk.typeIs;obtain⟨o,items,n,ho,_,hd,hi⟩:=hk;unfold hashByValue;refine _a (wpAny_specialOf hT F.slot_tuple_hash.lookup ?_);show wpAny _ _ (do
   for x in (<- seqItems? (.ref a)).getD #[.ellipsis] do if !(<- hashByValue 7 x) then return false
   return true) _ _ s;refine _a (_aP ho hd ?_);refine _a ?_;show wpAny _ _ (forIn items _ _) _ _ s;rw[<- Array.forIn_toList];refine _cq _ (λqu r s'=>r.1=none/\s'=s/\∀v∈qu,∃k t,v=Value.int k t) _ ?_ ?_ _ _ ⟨rfl,rfl,items_int hi⟩
 ·rintro v qu r s' ⟨hr,rfl,hall⟩;obtain⟨k,t,rfl⟩:=hall v _K;refine _a (show wpAny _ _ (hashByValue 7 (.int k t)) _ _ _ from _b ?_);simp only[_aT,_s,_P];exact _b ⟨rfl,rfl,λu hu'=>hall u (_C _ hu')⟩
 ·rintro⟨r1,r2⟩ s' ⟨hr,rfl,_⟩;simp only at hr;subst hr;exact _b q
theorem z3X{ks:List Int}{a:Addr}{Q:Bool->Shared->Prop}(hk:IsTupleKey (intKind prog w) s.heap ks a)(q:Q false s):wpAny (model prog w) A (ofAClassStatement 8 (.ref a)) Q E s:=by
 have hT:=hk.typeIs;obtain⟨o,items,n,ho,_,hd,hi⟩:=hk;unfold ofAClassStatement;refine _a (_b7 hT ?_);simp only;refine _a (show wpAny _ _ (pure true) _ _ s from _b ?_);simp only[_aT,_s,_P];refine _a (_aP ho hd ?_);refine _a ?_;show wpAny _ _ (forIn items _ _) _ _ s;rw[<- Array.forIn_toList];refine _cq _ (λqu r s'=>r.1=none/\s'=s/\∀v∈qu,∃k t,v=Value.int k t) _ ?_ ?_ _ _ ⟨rfl,rfl,items_int hi⟩
 ·rintro v qu r s' ⟨hr,rfl,hall⟩;obtain⟨k,t,rfl⟩:=hall v _K;refine _a (show wpAny _ _ (ofAClassStatement 7 (.int k t)) _ _ _ from _b ?_);simp only[_s,_P];exact _b ⟨rfl,rfl,λu hu'=>hall u (_C _ hu')⟩
 ·rintro⟨r1,r2⟩ s' ⟨hr,rfl,_⟩;simp only at hr;subst hr;exact _b q
theorem zeH{ks:List Int}{a:Addr}{ys:List Value}{Q:Bool->Shared->Prop}(hk:IsTupleKey (intKind prog w) s.heap ks a)(hy:∀y∈ys,∃k b,y=.ref b/\IsTupleKey (intKind prog w) s.heap k b)(q:Q false s):wpAny (model prog w) A (searchCouldBeSeen (.ref a) ys) Q E s:=by
 unfold searchCouldBeSeen;refine _a ?_;refine _cq _ (λqu r s'=>r.1=none/\s'=s/\∀y∈qu,∃k b,y=.ref b/\IsTupleKey (intKind prog w) s.heap k b) _ ?_ ?_ _ _ ⟨rfl,rfl,hy⟩
 ·rintro v qu r s' ⟨hr,rfl,hall⟩;obtain⟨k,b,rfl,kb⟩:=hall v _K;have go:∀r:Option Bool×PUnit,r.1=none->r.1=none/\s'=s'/\∀y∈qu,∃k b,y=Value.ref b/\IsTupleKey (intKind prog w) s'.heap k b:=λr hr=>⟨hr,rfl,λu hu'=>hall u (_C _ hu')⟩;by_cases e:(a==b)=true
  ·simp only[e,Bool.true_or,_N];exact _b (go _ rfl)
  ·have e':(a==b)=false:=by simpa using e
   simp only[e',carriedByValue,Bool.false_or,Bool.and_self,_s,_P];refine _a (wpAny_eqIsQuiet_tuple hk ?_);simp only[_aT,_s,_P];refine _a (wpAny_eqIsQuiet_tuple kb ?_);simp only[_aT,_s,_P];refine _a (z3X hk ?_);simp only[_s,_P];refine _a (z3X kb ?_);simp only[_s,_P];exact _b (go _ rfl)
 ·rintro⟨r1,r2⟩ s' ⟨hr,rfl,_⟩;simp only at hr;subst hr;exact _b q
end
section
variable {prog:Program}{w:World}{A:Around}{E:Value->Shared->Prop}{s:Shared}
abbrev qD(prog:Program)(w:World)(k:List Int):Int:=tupleKeyHash (intKind prog w) k
def Msk(m:Nat):Prop:=m=7\/m=31\/m=127
theorem Msk.ok{m:Nat}(h:Msk m):okM (m+1)=true:=by
 rcases h with rfl | rfl | rfl;·exact zlw
 ·exact zjD
 ·exact zhh
theorem Msk.odd{m:Nat}(h:Msk m):m % 2=1:=by rcases h with rfl | rfl | rfl<;>rfl
structure z1d(prog:Program)(w:World)(h:Heap)(o:Obj)(es:Array (Int×Value))(ep:Nat)(t:SetTable)(L:List (List Int×Addr)):Prop where
 ex:o.ExactSet
 hd:o.data=.set es ep t
 mm:Msk t.mask
 du:t.dummies=#[]
 le:t.led=(!w.params.followText "set-order")
 pl:t.plain=true
 ri:Ris t.place
 sz:t.place.size=es.size
 fl:es.size*5<t.mask*3
 eL:es.toList=L.map λx=>(qD prog w x.1,Value.ref x.2)
 at_:∀x∈L,IsTupleKey (intKind prog w) h x.1 x.2
section
variable {a:Addr}{o:Obj}{es:Array (Int×Value)}{ep:Nat}{t:SetTable}{L:List (List Int×Addr)}
theorem z1d.fits(U:z1d prog w s.heap o es ep t L):t.fits es.size=true:=by
 have:=U.fl;unfold SetTable.fits SetTable.fill;rw[U.sz,U.du];simp;omega
theorem z1d.get(U:z1d prog w s.heap o es ep t L){i:Nat}(hi:i<es.size):∃x∈L,es[i]? = some (qD prog w x.1,.ref x.2):=by
 have e:es[i]? = es.toList[i]? := by simp
 rw[e,U.eL];have hl:i<L.length:=by have:=_aq List.length U.eL;simp at this;omega
 exact⟨L[i],_cp hl,by simp[hl]⟩
theorem z12{t:SetTable}(hd:t.dummies=#[]){hA:Nat->Int}{h:Int}{p:SetTable.Probe}{r:Option SetTable.Met}(hr:t.probe hA h p=r){n:Nat}(h10:n<10*SetTable.turns t.mask)(he:Emp t n p)(h0:p.dummy=none): (∃j,r=some (.empty j none)/\t.slot j=.empty)\/∃j i next n',r=some (.candidate j i next)/\t.slot j=.live i/\Emp t n' next/\n'<n/\next.dummy=none:=by
 subst hr;exact zdt hd hA h n (10*SetTable.turns t.mask) p h10 he h0
theorem qC(U:z1d prog w s.heap o es ep t L)(ho:s.heap.get? a=some o){k:List Int}{b:Addr}(hk:IsTupleKey (intKind prog w) s.heap k b)(hn:∀x∈L,x.1≠k)(hu:A.units<cLine){Q:SetFound->Shared->Prop}(q:∀j,t.slot j=.empty->Q (.free j false) s): ∀(n fuel:Nat)(stand:Option SetTable.Probe),n<fuel->n<10*SetTable.turns t.mask->Emp t n (stand.getD (t.probeStart (qD prog w k)))->(stand.getD (t.probeStart (qD prog w k))).dummy=none->wpAny (model prog w) A (setSearchFrom a (.ref b) (qD prog w k) true fuel stand) Q E s
 | n,0,stand,hf,_,_,_=>absurd hf (_bW _) | n,fuel+1,stand,hf,h10,he,h0=>by
  unfold setSearchFrom;refine _a (_ap ho U.hd U.fits ?_);have gw:t.gaveWay=false:=by unfold SetTable.gaveWay;rw[U.mm.odd];rfl
  simp only[gw,_s,_P];split
  ·rename_i met hmet;rcases z12 U.du hmet h10 he h0 with⟨j,e,z⟩ | ⟨j,i,next,n',e,z,g3,g4,g5⟩
   ·injection e with e;subst e;exact _b (q j z)
   ·injection e with e;subst e;obtain⟨hi,_⟩:=z4d U.du z;rw[U.sz]at hi;obtain⟨x,hx,ex⟩:=U.get hi;have kx:=U.at_ x hx;have sm:t.sameMemory t.moves t.mask=some true:=by unfold SetTable.sameMemory;simp
    cases hb:t.led with
    | true=>
     simp only[_aT,_s,_P];rw[ex];refine _a (_X (wpAny_eqBool_tuple hu kx hk ?_));rw[_ab (hn x hx)];refine _a (_ap ho U.hd U.fits ?_);simp only[_cd,_s,_P,sm,_N,z,ex];refine _a (wpAny_isSame_ref_self (_a (_b ?_)));simp only[_N];exact qC U ho hk hn hu q n' fuel (some next) (by omega) (by omega) g3 g5 | false=>
     simp only[_c5,_N];refine _a (zeH hk (λy hy=>?_) ?_)
     ·obtain⟨p,hp,rfl⟩:=_A.mp hy;have hp2:p∈es.toList:=by
       have:=(_cz.mp hp);exact _cz.mpr (Array.mem_filter.mp this).1
      rw[U.eL]at hp2;obtain⟨x,hx,rfl⟩:=_A.mp hp2;exact⟨x.1,x.2,rfl,U.at_ x hx⟩
     ·simp only[_s,_P];rw[ex];refine _a (_X (wpAny_eqBool_tuple hu kx hk ?_));rw[_ab (hn x hx)];refine _a (_ap ho U.hd U.fits ?_);simp only[_cd,_s,_P,sm,_N,z,ex];refine _a (wpAny_isSame_ref_self (_a (_b ?_)));simp only[_N];exact qC U ho hk hn hu q n' fuel (some next) (by omega) (by omega) g3 g5
  ·rename_i hmet;rcases z12 U.du rfl h10 he h0 with⟨j,e,z⟩ | ⟨j,i,next,n',e,_⟩;·exact absurd e (hmet _)
   ·exact absurd e (hmet _)
end
end
section
variable {prog:Program}{w:World}{A:Around}{E:Value->Shared->Prop}{s:Shared}
variable {a:Addr}{o:Obj}{es:Array (Int×Value)}{ep:Nat}{t:SetTable}{L:List (List Int×Addr)}
theorem IsTupleKey.same{h h':Heap}{ks:List Int}{b:Addr}(x:IsTupleKey (intKind prog w) h ks b)(ho:h.get? a=some o)(hd:o.data=.set es ep t)(hs:Heap.SameBut a h h'):IsTupleKey (intKind prog w) h' ks b:=by
 obtain⟨o',items,n,ho',hc,hd',hi⟩:=x;have hne:b≠a:=by
  rintro rfl;obtain rfl:o'=o:=_E (ho'.symm.trans ho);rw[hd]at hd';exact nomatch hd'
 exact⟨o',items,n,(hs.2 b hne).trans ho',hc,hd',hi⟩
theorem z25{α:Type}:∀xs:List α,(List.range xs.length).filterMap (xs[·]?)=xs
 | []=>rfl | x::t=>by
  rw[_n,List.range_succ_eq_map,_bK];simp only[_m,List.filterMap_map];congr 1;have:((λi:Nat=>(x::t)[i]?) ∘ Nat.succ)=λi=>t[i]? := funext λi=>by simp
  rw[this];exact z25 t
theorem z7p{α:Type}{n:Nat}(xs:List α)(os:List Nat)(p:os.Perm (List.range n))(hn:xs.length=n):(os.filterMap (xs[·]?)).Perm xs:=by
 have h:=p.filterMap (xs[·]?);subst hn;rw[z25]at h;exact h
theorem zd2 (ex:o.ExactSet) (hd:o.data=.set es ep t) (ho:s.heap.get? a=some o) (hm:Msk t.mask) (hf:t.fits es.size=true) (le:t.led=(!w.params.followText "set-order")) (pl:t.plain=true) (eL:es.toList=L.map λx=>(qD prog w x.1,Value.ref x.2)) (at_:∀x∈L,IsTupleKey (intKind prog w) s.heap x.1 x.2) {m wanted:Nat} (hs:SetTable.sizeAbove wanted=m+1) (hm2:Msk m) (fl:es.size*5<m*3) (big:es.size<=sizeLine) {Q:Unit->Shared->Prop} (q:∀h' o' es' ep' t' L',Heap.SameBut a s.heap h'->h'.get? a=some o'->z1d prog w h' o' es' ep' t' L'->L'.Perm L->Q () {s with heap:=h'}):wpAny (model prog w) A (setRelay a wanted) Q E s:=by
 unfold setRelay;refine _a (_ap ho hd hf ?_);have m511:m<=511:=by rcases hm2 with rfl | rfl | rfl<;>decide
 simp only;rw[_i (by rw[hs,_aM];omega)];obtain⟨place,order,e,ri,sz,pm,oz⟩:=zeU (mask:=m) (fi:=t.finger) (mo:=t.movedTo m) (le:=t.led) (pn:=t.plain) (hashes:=es.map (·.1)) hm2.ok (by simp;omega);have er:t.relaid (es.map (·.1)) wanted=some ({mask:=m,place:=place,dummies:=#[],finger:=t.finger,led:=t.led,moves:=t.movedTo m,plain:=t.plain},order):=by
  unfold SetTable.relaid;rw[hs];exact e
 rw[er];rw[Array.size_map]at sz pm oz;have p1:=z7p es.toList order.toList pm (by simp);have p2:(order.filterMap (es[·]?)).toList=order.toList.filterMap (es.toList[·]?):=by simp
 have z1:(order.filterMap (es[·]?)).size=es.size:=by
  have:=p1.length_eq;rw[<- p2,_ae,_ae]at this;exact this
 have eL2:(order.filterMap (es[·]?)).toList=(order.toList.filterMap (L[·]?)).map λx=>(qD prog w x.1,Value.ref x.2):=by
  rw[p2,eL,List.map_filterMap];refine _aq (λf=>List.filterMap f order.toList) (funext λi=>?_);simp
 have ll:L.length=es.size:=by have:=_aq List.length eL;simpa using this.symm
 have pL:=z7p L order.toList pm ll;show wpAny _ _ ((if ((order.filterMap (es[·]?)).size != es.size)=true then _ else _) >>= _) _ _ s;rw[z1];simp only[_bj,_s,_P];refine _a (_b ?_);refine wpAny_storeSet_of ho hd ?_ (by rw[z1];exact big);have sb:Heap.SameBut a s.heap (s.heap.update a (Obj.putSet (order.filterMap (es[·]?)) {mask:=m,place:=place,dummies:=#[],finger:=t.finger,led:=t.led,moves:=t.movedTo m,plain:=t.plain})):=_ah s.heap a _;refine q _ _ (order.filterMap (es[·]?)) (ep+1) {mask:=m,place:=place,dummies:=#[],finger:=t.finger,led:=t.led,moves:=t.movedTo m,plain:=t.plain} (order.toList.filterMap (L[·]?)) sb (_an _ ho (by rw[_dH _ _ hd];rfl)) ⟨?_,?_,hm2,rfl,le,pl,ri,by rw[z1];exact sz,by rw[z1];exact fl,eL2,λx hx=>IsTupleKey.same (at_ x (pL.mem_iff.mp hx)) ho hd sb⟩ pL;·rw[_dH _ _ hd];exact ex
 ·rw[_dH _ _ hd]
end
section
variable {prog:Program}{w:World}{A:Around}{E:Value->Shared->Prop}{s:Shared}
variable {a:Addr}{o:Obj}{es:Array (Int×Value)}{ep:Nat}{t:SetTable}{L:List (List Int×Addr)}
theorem zd3 (U:z1d prog w s.heap o es ep t L) (ho:s.heap.get? a=some o) {k:List Int} {b:Addr} (hk:IsTupleKey (intKind prog w) s.heap k b) (hn:∀x∈L,x.1≠k) (hu:A.units<cLine) (hl:L.length<70) {Q:Bool->Shared->Prop} (q:∀h' o' es' ep' t' L',Heap.SameBut a s.heap h'->h'.get? a=some o'->z1d prog w h' o' es' ep' t' L'->L'.Perm (L++[(k,b)])->Q true {s with heap:=h'}):wpAny (model prog w) A (setAddHashed a (.ref b) (qD prog w k)) Q E s:=by
 have hf:=U.fits;have ll:es.size=L.length:=by have:=_aq List.length U.eL;simpa using this
 unfold setAddHashed;refine _X ?_;show wpAny _ _ (setAddHashedIn a (.ref b) (qD prog w k) (99999+1)) _ _ s;unfold setAddHashedIn;refine _a (_ap ho U.hd hf ?_);have bs:byScan (.ref b) es=false:=rfl;simp only[bs,_s,_P];have tm:t.mask<=127:=by rcases U.mm with e | e | e<;>rw[e]<;>decide
 have sf:=U.fl;refine _a (show wpAny _ _ (setSearchFrom a (.ref b) (qD prog w k) true 100000 none) _ _ s from qC U ho hk hn hu (λj hj=>?_) (10*(t.mask+14)) 100000 none (by omega) (by unfold SetTable.turns;omega) (z8Y U.du (by rw[U.sz];omega) U.mm.ok _) rfl);simp only;refine _a (_ap ho U.hd hf ?_);simp only[zjo U.du];rw[_f U.pl];refine _a (z8A hk ?_);simp only[_N];have bp:=(z0b U.ri j).1;have ri':=zeS U.du U.ri hj;have e1:(SetTable.insertAt es (SetTable.below t.place j) (qD prog w k,Value.ref b)).toList=(L.take (SetTable.below t.place j)++(k,b)::L.drop (SetTable.below t.place j)).map λx=>(qD prog w x.1,Value.ref x.2):=by rw[_bQ,U.eL,_bV,_j,_cy,_bP]
 have z1:(SetTable.insertAt es (SetTable.below t.place j) (qD prog w k,Value.ref b)).size=es.size+1:=by
  have:=_aq List.length e1;rw[_ae]at this;rw[this,ll];simp;have:=U.sz;omega
 have z2:(SetTable.insertAt t.place (SetTable.below t.place j) j).size=es.size+1:=by
  rw[<- _ae,_bQ];simp;have:=U.sz;omega
 have pm:(L.take (SetTable.below t.place j)++(k,b)::L.drop (SetTable.below t.place j)).Perm (L++[(k,b)]):=by
  refine (List.perm_middle).trans ?_;rw[_cj];exact (List.perm_append_singleton (k,b) L).symm
 generalize SetTable.insertAt es (SetTable.below t.place j) (qD prog w k,Value.ref b)=es' at *;generalize SetTable.insertAt t.place (SetTable.below t.place j) j=pl' at *;generalize L.take (SetTable.below t.place j)++(k,b)::L.drop (SetTable.below t.place j)=L' at *;refine _a (wpAny_storeSet_of ho U.hd ?_ (by rw[z1,_aM];omega));have sb:Heap.SameBut a s.heap (s.heap.update a (Obj.putSet es' {t with place:=pl'})):=_ah s.heap a _;have g1:(s.heap.update a (Obj.putSet es' {t with place:=pl'})).get? a=some (Obj.putSet es' {t with place:=pl'} o):=_an _ ho (by rw[_dH _ _ U.hd];rfl);have hd1:(Obj.putSet es' {t with place:=pl'} o).data=.set es' (ep+1) {t with place:=pl'}:=by rw[_dH _ _ U.hd]
 have ex1:(Obj.putSet es' {t with place:=pl'} o).ExactSet:=by rw[_dH _ _ U.hd];exact U.ex
 have at1:∀x∈L',IsTupleKey (intKind prog w) (s.heap.update a (Obj.putSet es' {t with place:=pl'})) x.1 x.2:=λx hx=>by
  refine IsTupleKey.same ?_ ho U.hd sb;rcases _M.mp (pm.mem_iff.mp hx) with h | h;·exact U.at_ x h
  ·rw[_bd.mp h];exact hk
 have fi:({t with place:=pl'}:SetTable).fill=es.size+1:=by
  unfold SetTable.fill;simp only[U.du];rw[z2];rfl
 by_cases tf:({t with place:=pl'}:SetTable).tooFull=true
 ·simp only[tf,_c5,Bool.and_self,_N];have tf':(es.size+1)*5 ≥ t.mask*3:=by
   unfold SetTable.tooFull at tf;rw[fi]at tf;simpa using tf
  have pick:∃m,SetTable.sizeAbove (SetTable.grown (es.size+1))=m+1/\Msk m/\(es.size+1)*5<m*3:=by
   rcases U.mm with e | e | e
   ·rw[e]at sf tf';have:es.size=4:=by omega
    rw[this];exact⟨31,by decide,.inr (.inl rfl),by decide⟩
   ·rw[e]at sf tf';have:es.size=18:=by omega
    rw[this];exact⟨127,by decide,.inr (.inr rfl),by decide⟩
   ·rw[e]at sf tf';omega
  obtain⟨m,m1,m2,m3⟩:=pick;refine _a (zd2 (s:={s with heap:=s.heap.update a (Obj.putSet es' {t with place:=pl'})}) (L:=L') ex1 hd1 g1 (show Msk t.mask from U.mm) (by unfold SetTable.fits;rw[fi,z1];simp[z2];omega) U.le U.pl e1 at1 m1 m2 (by rw[z1];exact m3) (by rw[z1,_aM];omega) λh' o' es2 ep2 t2 L2 sb2 ho2 U2 pm2=>?_);exact _b (q h' o' es2 ep2 t2 L2 (sb.trans sb2) ho2 U2 (pm2.trans pm))
 ·have tf0:({t with place:=pl'}:SetTable).tooFull=false:=by simpa using tf
  simp only[tf0,_cd,_s,_P];have tf':(es.size+1)*5<t.mask*3:=by
   unfold SetTable.tooFull at tf0;rw[fi]at tf0;simpa using tf0
  refine _a (_b (_b ?_));exact q _ _ es' (ep+1) {t with place:=pl'} L' sb g1 ⟨ex1,hd1,U.mm,U.du,U.le,U.pl,ri',by rw[z1];exact z2,by rw[z1];exact tf',e1,at1⟩ pm
end
end Dd
set_option maxHeartbeats 3200000
namespace Dd
open L2 PySem.W
section
variable {prog:Program}{w:World}{A:Around}{E:Value->Shared->Prop}{s:Shared}
theorem z8W{h h':Heap}{ks:List Int}{b:Addr}(x:IsTupleKey (intKind prog w) h ks b)(k:∀u,h.get? b=some u->h'.get? b=some u):IsTupleKey (intKind prog w) h' ks b:= let ⟨o,items,n,ho,r⟩:=x;⟨o,items,n,k o ho,r⟩
theorem z1d.to{h h':Heap}{o:Obj}{es:Array (Int×Value)}{ep:Nat}{t:SetTable}{L:List (List Int×Addr)}(U:z1d prog w h o es ep t L)(k:∀x∈L,∀u,h.get? x.2=some u->h'.get? x.2=some u):z1d prog w h' o es ep t L:= ⟨U.ex,U.hd,U.mm,U.du,U.le,U.pl,U.ri,U.sz,U.fl,U.eL,λx hx=>z8W (U.at_ x hx) (k x hx)⟩
theorem zgU:z1d prog w s.heap (zaQ w) #[] 0 (.fresh 0 0 (!w.params.followText "set-order")) []:= ⟨⟨rfl,rfl,rfl⟩,rfl,.inl rfl,rfl,rfl,rfl,List.Pairwise.nil,rfl,by show 0*5<7*3;decide,rfl,λx hx=>by cases hx⟩
def zcE(key:Nat->List Int)(adr:Nat->Addr)(i:Nat):List (List Int×Addr):=(List.range i).map λj=>(key j,adr j)
theorem z6v{R:Result->Shared->Prop}{I S:Addr}{fp wr:List Addr}{G:Array GenState->Array GenState->Prop}{n:Nat}{P:Nat->Value->Prop}{St:Nat->Shared->Prop}(W:WalksS prog w A.in1 I fp wr G n P St)(hS:S∉fp)(key:Nat->List Int)(adr:Nat->Addr)(hval:∀i v,P i v->v=.ref (adr i))(hwr:∀i,i<n->adr i∉wr/\adr i≠S)(hnd:∀i j,i<j->j<n->key i≠key j)(hu:A.in1.units<cLine)(h70:n<=70): ∀(k i:Nat)(s:Shared)(o:Obj)(es:Array (Int×Value))(ep:Nat)(t:SetTable)(L:List (List Int×Addr)),i+k=n->L.Perm (zcE key adr i)->St i s->s.heap.get? S=some o->z1d prog w s.heap o es ep t L->(∀j,j<n->IsTupleKey (intKind prog w) s.heap (key j) (adr j))-> (∀s' o' es' ep' t' L',Moved (S::wr) G s s'->s'.heap.get? S=some o'->z1d prog w s'.heap o' es' ep' t' L'->L'.Perm (zcE key adr n)->R (.ok (.ret .none)) s')->codeAny (model prog w) A (.builtin "set.update.loop" ⟨[.ref S,.ref I],[]⟩) R s
 | 0,i,s,o,es,ep,t,L,hn,pm,st,ho,U,hk,q=>by
  refine _a2 F.entry_set_update_loop ?_;rw[_bm _b3 _];refine _a (show wpAny _ A.in1 (pyNext (.ref I)) _ _ s from W.done s _ _ (by rw[<- hn];exact st) λs' mv=>?_);have e:i=n:=by omega
  subst e;refine _b (q s' o es ep t L (mv.mono λb hb=>.tail _ hb) (mv.heap S _ (λz=>hS (W.sub _ z)) ho) (U.to λx hx u e=>?_) pm);obtain⟨j,hj,rfl⟩:=_A.mp (pm.mem_iff.mp hx);exact mv.heap _ u (hwr j (_Q.mp hj)).1 e | k+1,i,s,o,es,ep,t,L,hn,pm,st,ho,U,hk,q=>by
  refine _a2 F.entry_set_update_loop ?_;rw[_bm _b3 _];have lt:i<n:=by omega
  refine _a (show wpAny _ A.in1 (pyNext (.ref I)) _ _ s from W.item i s _ _ lt st λv s1 pv st1 mv=>?_);obtain rfl:=hval i v pv;have inL:∀x∈L,∃j,j<i/\x=(key j,adr j):=λx hx=>by
   obtain⟨j,hj,rfl⟩:=_A.mp (pm.mem_iff.mp hx);exact⟨j,_Q.mp hj,rfl⟩
  have U1:z1d prog w s1.heap o es ep t L:=U.to λx hx u e=>by
   obtain⟨j,hj,rfl⟩:=inL x hx;exact mv.heap _ u (hwr j (by omega)).1 e
  have hk1:∀j,j<n->IsTupleKey (intKind prog w) s1.heap (key j) (adr j):=λj hj=>z8W (hk j hj) λu e=>mv.heap _ u (hwr j hj).1 e;have ho1:s1.heap.get? S=some o:=mv.heap S _ (λz=>hS (W.sub _ z)) ho;refine _a (_X (_X (_a (wpAny_pyHash_tuple hu (hk1 i lt) ?_))));refine zd3 (s:={s1 with toks:=s1.toks+((key i).length+1)}) U1 ho1 (hk1 i lt) (λx hx z=>?_) hu (by rw[pm.length_eq];simp[zcE];omega) λh' o' es' ep' t' L' sb ho' U' pm'=>?_
  ·obtain⟨j,hj,rfl⟩:=inL x hx;exact hnd j i hj lt z
  ·have pm2:L'.Perm (zcE key adr (i+1)):=by
    refine pm'.trans ?_;unfold zcE;rw[List.range_succ,_bV];exact pm.append_right _
   refine _b ⟨plainId_quiet _b3 _,z6v W hS key adr hval hwr hnd hu h70 k (i+1) _ o' es' ep' t' L' (by omega) pm2 (W.frame _ s1 _ _ st1 (by show s1.toks<=s1.toks+_;omega) λc hc u e=>?_) ho' U' (λj hj=>z8W (hk1 j hj) λu e=>(sb.2 _ (hwr j hj).2).trans e) λs2 o2 es2 ep2 t2 L2 mv2 ho2 U2 pm3=>?_⟩;·exact (sb.2 c λz=>hS (z ▸ hc)).trans e
   ·refine q s2 o2 es2 ep2 t2 L2 (Moved.trans W.gtrans ((mv.mono λb hb=>.tail _ hb).then_heap (by show s1.toks<=s1.toks+_;omega) λc u hc e=>?_) mv2) ho2 U2 pm3;exact (sb.2 c λz=>hc (z ▸ .head _)).trans e
end
end Dd
set_option maxHeartbeats 3200000
namespace Dd
open L2 PySem.W
section
variable {prog:Program}{w:World}{A:Around}{E:Value->Shared->Prop}{s:Shared}
theorem zay{ks:List (List Int)}{bs:List Addr}(lk:ks.length=bs.length){L:List (List Int×Addr)}(h:L.Perm (zcE (λi=>ks.getD i []) (λi=>bs.getD i 0) bs.length)):(L.map (·.1)).Perm ks:=by
 refine (h.map (·.1)).trans (List.Perm.of_eq ?_);unfold zcE;rw[_ai,<- lk];refine _a7 (by simp) λi h1 h2=>?_;simp at h1;simp[_k,h2]
theorem zb5 {l:Addr} {items:Array Value} {ks:List (List Int)} {bs:List Addr} {Q:Value->Shared->Prop} (hh:A.handled=none) (hu:A.units+8<cLine) (hl:s.heap.IsList l items) (hi:items.toList=bs.map Value.ref) (lk:ks.length=bs.length) (hk:∀i,i<bs.length->IsTupleKey (intKind prog w) s.heap (ks.getD i []) (bs.getD i 0)) (nd:ks.Nodup) (h2:bs.length<=70) (q:∀(h':Heap) (tk:Nat) (o:Obj) (es:Array (Int×Value)) (ep:Nat) (t:SetTable) (L:List (List Int×Addr)),h'.get? s.heap.objs.size=some o->z1d prog w h' o es ep t L->L.Perm (zcE (λi=>ks.getD i []) (λi=>bs.getD i 0) bs.length)->(∀b u,s.heap.get? b=some u->h'.get? b=some u)->Q (.ref s.heap.objs.size) {s with heap:=h',toks:=tk}): wpAny (model prog w) A (call (.type "set") [.ref l]) Q E s:=by
 have lenI:items.size=bs.length:=by have:=_aq List.length hi;simpa using this
 obtain⟨c,tl,hmro⟩:=_aJ.mro;have a1:=_aJ.made;have a2:=_aJ.sub;have a3:=_aJ.notType;have a4:=_aJ.canCreate;have a5:=PySem.F.typeCall_set_1 (.ref l);refine wpAny_call (codeAny_of_tree (show wpAny _ _ (callAny (.type "set") _) _ _ _ from _b ⟨Code.quiet_builtin _ (by decide +kernel),_a2 PySem.F.entry_type_call ?_⟩));rw[Around.under_plain (weight_type_call_type "set" [.ref l] []) rfl];repeat (any_goals (first | assumption | wp_step))
 refine _bG (zfU (.ref l) (E:=E) (Z:=λv s1=>v=.ref s.heap.objs.size/\s1={s with heap:=s.heap.push (zaQ w)}) ⟨rfl,rfl⟩) λr s1 hr=>?_;cases r with
 | error e=>exact hr | ok fl=>cases fl with
  | ret obj=>
   obtain⟨rfl,rfl⟩:=hr;have gS:(s.heap.push (zaQ w)).get? s.heap.objs.size=some (zaQ w):=_g _ rfl;have hT:Shared.TypeIs {s with heap:=s.heap.push (zaQ w)} (.ref s.heap.objs.size) "set":=⟨_,gS,rfl⟩;have a6:=_aJ.init.lookup;have a7:=_aJ.init.bind (.ref s.heap.objs.size);repeat (any_goals (first | assumption | wp_step))
   refine _bG (codeAny_call_builtin (R:=wants (λr s2=>r=.none/\∃h' tk o es ep t L,s2={s with heap:=h',toks:=tk}/\h'.get? s.heap.objs.size=some o/\z1d prog w h' o es ep t L/\L.Perm (zcE (λi=>ks.getD i []) (λi=>bs.getD i 0) bs.length)/\∀b u,s.heap.get? b=some u->h'.get? b=some u) E) _aJ.init.plain PySem.F.entry_set_init (check_set_init_1 hT ?_)) λr2 s2 hr2=>?_
   ·have ltl:l<s.heap.objs.size:=by obtain⟨ol,hol,_⟩:=hl;exact _l hol
    have hl1:(s.heap.push (zaQ w)).IsList l items:=hl.push _;obtain⟨⟨oc,od,oda,osl⟩,hol,hcl,nl,hdl⟩:=hl;simp only at hcl hdl;subst hcl hdl;have hol':(s.heap.push (zaQ w)).get? l=some {cls:=.type "list",dict:=od,data:=.seq items nl,slots:=osl}:=_c _ hol;have b1:=PySem.F.sub_list_set;have b2:=PySem.F.sub_list_frozenset;have b3:(Value.type "list"==Value.type "dict")=false:=by decide
    unfold Builtin.«set.__init__» noKeywords Builtin.Frozenset.updateFrom;generalize hPI:pyIter=PI;wp_walk;subst hPI;refine _di hl1 (_a (wpAny_runValue ?_));have szp:(s.heap.push (zaQ w)).objs.size=s.heap.objs.size+1:=_as _ _;have neI:l≠(s.heap.push (zaQ w)).objs.size:=by rw[szp];exact _t (_aa ltl)
    have W:=(Walks.list (prog:=prog) (w:=w) (A:=A.in1.in1.in1) (show A.in1.in1.in1.handled=none by simp[hh]) _ l neI items).toS;have tk1:∀i,i<bs.length->bs.getD i 0<s.heap.objs.size/\bs.getD i 0≠l:=λi hi2=>by
     obtain⟨o',it,n',ho',hc',hd',_⟩:=hk i hi2;refine⟨_l ho',λz=>?_⟩;rw[z]at ho';obtain rfl:=_E (ho'.symm.trans hol);exact absurd (show Value.type "list"=Value.type "tuple" from hc') (by decide)
    refine z6v W (S:=s.heap.objs.size) (by rw[szp];simp only[_p,_bJ,or_false,not_or];exact⟨_t (_aR _),_b5 ltl⟩) (λi=>ks.getD i []) (λi=>bs.getD i 0) (λi v hv=>?_) (λi hi2=>?_) (λi j hij hj z=>?_) (by simp;omega) (by omega) items.size 0 _ (zaQ w) _ _ _ [] (by omega) (.refl _) ⟨⟨_,_g _ rfl,rfl,rfl⟩,hl1.push _⟩ (_c _ gS) zgU (λj hj=>?_) λs3 o3 es3 ep3 t3 L3 mv ho3 hI3 pm3=>?_
    ·have e:items.toList[i]? = some v:=by rw[Array.getElem?_toList];exact hv
     rw[hi,_S,_x]at e;obtain⟨b,hb,rfl⟩:=e;rw[_k,hb];rfl
    ·rw[lenI]at hi2;obtain⟨t1,t2⟩:=tk1 i hi2;refine⟨λz=>?_,_t t1⟩;have:=W.sub _ z;rw[szp]at this;simp only[_p,_bJ,or_false]at this;rcases this with e | e
     ·have e':bs.getD i 0=s.heap.objs.size+1:=e;rw[e']at t1;exact absurd t1 (_c2.mpr (_br _))
     ·exact t2 e
    ·rw[lenI]at hj;have h1:ks.getD i []=ks[i]'(by omega):=by simp[_k,show i<ks.length by omega]
     have h2:ks.getD j []=ks[j]'(by omega):=by simp[_k,show j<ks.length by omega]
     simp only[h1,h2]at z;have:=(_aL nd).mp z;omega
    ·rw[lenI]at hj;exact z8W (hk j hj) λu e=>_c _ (_c _ e)
    rw[lenI]at pm3;rw[Moved.eq_with mv];refine _b (_b ⟨rfl,_,_,o3,es3,ep3,t3,L3,rfl,ho3,hI3,pm3,λb u e=>?_⟩);have lb:=_l e;exact mv.heap b u (by rw[szp];simp only[_p,_bJ,or_false,not_or];exact⟨_t lb,_t (_aa lb)⟩) (_c _ (_c _ e))
   ·cases r2 with
    | error e=>exact hr2 | ok fl2=>cases fl2 with
     | ret r=>
      obtain⟨rfl,h',tk,o,es,ep,t,L,rfl,ho,hI,pm,k⟩:=hr2;repeat (any_goals (first | assumption | wp_step))
      exact q _ _ _ _ _ _ _ ho hI pm k | _=>exact hr2.elim
  | _=>exact hr.elim
end
section
variable {prog:Program}{w:World}{A:Around}{E:Value->Shared->Prop}{s:Shared}
variable {a:Addr}{o:Obj}{es:Array (Int×Value)}{ep:Nat}{t:SetTable}{L:List (List Int×Addr)}
theorem z9z{α:Type}(f:Nat->Nat):∀(n k:Nat)(left:List α)(out:Array α),left.length=n->(pickOrder.go f n k left out).toList.Perm (out.toList++left)
 | 0,k,left,out,h=>by
  rw[_cG h,_aQ];exact .refl _ | n+1,k,left,out,h=>by
  unfold pickOrder.go;have hl:f k % left.length<left.length:=Nat.mod_lt _ (by omega);rw[_e hl];simp only;refine (z9z f n (k+1) _ _ (by rw[List.length_eraseIdx];simp[hl];omega)).trans ?_;rw[Array.toList_push,_de];refine List.Perm.append_left _ ?_;rw[List.eraseIdx_eq_take_drop_succ];refine (List.perm_middle (l₁:=left.take (f k % left.length))).symm.trans (List.Perm.of_eq ?_);rw[<- _ax hl,_cj]
theorem z4c{α:Type}(f:Nat->Nat)(xs:Array α):(pickOrder f xs).toList.Perm xs.toList:=by
 have:=z9z f xs.size 0 xs.toList #[] (by simp);simpa[pickOrder] using this
theorem zjE{h:Heap}(U:z1d prog w h o es ep t L):∃os sl,es.size=os.length/\(∀A:Around,zjm prog w A a o ep os sl)/\os.Perm (L.map λx=>Value.ref x.2):=by
 have hf:t.fits es.size=true:=by
  have:=U.fl;unfold SetTable.fits SetTable.fill;rw[U.sz,U.du];simp;omega
 have hp:(es.toList.map (·.2))=L.map λx=>Value.ref x.2:=by rw[U.eL,_ai];rfl
 cases hb:w.params.followText "set-order" with
 | true=>
  refine⟨(pickOrder (w.params.setOrder a ep) es).toList.map (·.2),λ_=>0,?_,λA=>⟨rfl,λi s Q E hi ho hq=>?_⟩,?_⟩
  ·have:=(z4c (w.params.setOrder a ep) es).length_eq;rw[_w,this];simp
  ·unfold setNext;refine _a (_ap ho U.hd hf ?_);refine _a (show wpAny _ _ setsByText _ _ _ from _a (_a6 (_b ?_)));dsimp only;rw[show (model prog w).w.params.followText "set-order"=true from hb];simp only[_N,_bj,_s,_P];refine _a ?_;unfold setWalk;refine _a (_ap ho U.hd hf ?_);refine _a (show wpAny _ _ setsByText _ _ _ from _a (_a6 (_b ?_)));dsimp only;rw[show (model prog w).w.params.followText "set-order"=true from hb];simp only[_N];refine _a (_a6 (_b ?_));refine _b ?_;dsimp only;show Q (((pickOrder (w.params.setOrder a ep) es)[i]?).map λe=>(e.2,0)) s;simpa[_a0] using hq
  ·rw[<- hp];exact (z4c _ _).map _ | false=>
  refine⟨es.toList.map (·.2),λi=>if i=0 then 0 else t.place.getD (i-1) 0+1,by simp,λA=>⟨rfl,λi s Q E hi ho hq=>?_⟩,by rw[hp]⟩;have hi':i<=es.size:=by simpa using hi
  have bl:SetTable.below t.place (if i=0 then 0 else t.place.getD (i-1) 0+1)=i:=by
   obtain⟨b1,b2,b3⟩:=z0b U.ri (if i=0 then 0 else t.place.getD (i-1) 0+1);rcases Nat.lt_trichotomy (SetTable.below t.place (if i=0 then 0 else t.place.getD (i-1) 0+1)) i with c | c | c
   ·have i1:i-1<t.place.size:=by rw[U.sz];omega
    have:=b3 (i-1) i1 (by omega);rw[_i (by omega)]at this;simp[Array.getD,i1]at this;omega
   ·exact c
   ·have i1:i<t.place.size:=by omega
    have:=b2 i i1 c;by_cases z:i=0;·rw[_f z]at this;omega
    ·rw[_i z]at this;have i2:i-1<t.place.size:=by omega
     have lt:=U.ri.at_ i1 (show i-1<i by omega);simp[Array.getD,i2]at this;omega
  unfold setNext;refine _a (_ap ho U.hd hf ?_);refine _a (show wpAny _ _ setsByText _ _ _ from _a (_a6 (_b ?_)));dsimp only;rw[show (model prog w).w.params.followText "set-order"=false from hb];simp only[_s,_P];show wpAny _ _ (if (!t.plain&&decide (es.size > 1))=true then _ else _) _ _ _;rw[U.pl];simp only[_aT,_cX,_s,_P];refine _a (show wpAny _ _ (if (!t.led&&!es.isEmpty)=true then _ else pure ()) _ _ _ from ?_);rw[U.le,hb];simp only[_c5,_aT,_cX,_s,_P];refine _b (_b ?_);rw[bl];by_cases hi2:i<es.size
  ·have e1:es[i]? = some es[i]:=by simp[hi2]
   have i3:i<t.place.size:=by rw[U.sz];exact hi2
   have e2:t.place[i]? = some t.place[i]:=by simp[i3]
   rw[e1,e2];have e3:(es.toList.map (·.2))[i]? = some es[i].2:=by simp[hi2]
   rw[e3]at hq;simp only[_H]at hq;rw[_i (by omega)]at hq;simpa[Array.getD,i3] using hq
  ·have e1:es[i]? = none:=by simp;omega
   rw[e1];have e3:(es.toList.map (·.2))[i]? = none:=by simp;omega
   rw[e3]at hq;exact hq
end
section
variable {prog:Program}{w:World}{A:Around}{E:Value->Shared->Prop}{s:Shared}
variable {a:Addr}{o:Obj}{es:Array (Int×Value)}{ep:Nat}{t:SetTable}{L:List (List Int×Addr)}
theorem zct{ks:List Int}{vs:List Value}(h:ItemsAre (intKind prog w) ks vs):wo vs ks:=by induction h with
 | nil=>exact .nil | cons h1 _ ih=>obtain⟨t,rfl⟩:=int_is h1;exact .cons ih
theorem zig{h:Heap}{ks:List Int}{b:Addr}(x:IsTupleKey (intKind prog w) h ks b)(ne:ks≠[]):TupAt h (.ref b) ks:=by
 obtain⟨o,us,n,ho,hc,hd,hi⟩:=x;exact⟨b,o,n,us,rfl,ho,hc,hd,zct hi,ne⟩
theorem zdA{h:Heap}:∀L:List (List Int×Addr),(∀x∈L,IsTupleKey (intKind prog w) h x.1 x.2/\x.1≠[])->xk h (L.map λx=>Value.ref x.2) (L.map (·.1))
 | [],_=>.nil | x::L,hx=>.cons (zig (hx x (.head _)).1 (hx x (.head _)).2) (zdA L λy hy=>hx y (.tail _ hy))
theorem zk2{L:List (List Int)}(h:Pm.Up L):L.Pairwise λa b=>lexN b a=false:=h.imp λ{a c} h=>by cases q:lexN c a with
 | false=>rfl | true=>have:=xt.tr _ _ _ h q;rw[xt.irr]at this;cases this
theorem z5O {Q:Value->Shared->Prop} (hh:A.handled=none) (ho:s.heap.get? a=some o) (U:z1d prog w s.heap o es ep t L) (ne:∀x∈L,x.1≠[]) (nd:(L.map (·.1)).Nodup) (h64:L.length<64) (q:∀(h':Heap) (tk:Nat) (r:Addr) (L':List (List Int×Addr)) (c:Nat),L'.Perm L->L'.map (·.1)=jR lexN (L.map (·.1))->s.heap.objs.size<=r->h'.get? r=some (seqObj "list" (L'.map λx=>Value.ref x.2).toArray c)->(∀b u,s.heap.get? b=some u->h'.get? b=some u)->Q (.ref r) {s with heap:=h',toks:=tk}): wpAny (model prog w) A (call (.builtin "sorted") [.ref a]) Q E s:=by
 obtain⟨os,sl,hz,G,pm⟩:=zjE (a:=a) U;obtain⟨M,mp,me⟩:=zc5 (f:=λx:List Int×Addr=>Value.ref x.2) pm L rfl;have lM:os.length=M.length:=by rw[<- me,_w]
 have lL:=mp.length_eq;have hf:t.fits es.size=true:=U.fits;have s1:os.length<=sizeLine:=by rw[_aM];omega
 refine _be kind_sorted _dQ _dR (_dS _) ?_;unfold Builtin.«sorted»;refine _a (m:=checkCount "sorted" 1 1 _) (_b (_a (z6g (zei G U.ex U.hd hf U.pl hz) (show A.in1.handled=none from hh) ho s1 λh' tk acc big k it=>?_)));have ea:acc.toList=os:=by
  refine List.ext_getElem? λi=>?_;by_cases hi:i<acc.size
  ·have e1:acc.toList[i]? = some acc[i]:=by simp[hi]
   rw[e1,it.2 i acc[i] (by simp[hi])]
  ·have e1:acc.toList[i]? = none:=by simp;omega
   have e2:os[i]? = none:=by have:=it.1;simp;omega
   rw[e1,e2]
 rw[ea];refine _a (_bC ?_ (by simpa using s1));have g:(h'.push (seqObj "list" os.toArray 0)).get? h'.objs.size=some (seqObj "list" os.toArray 0):=_g _ rfl;have tM:∀hp:Heap,(∀b u,s.heap.get? b=some u->hp.get? b=some u)->xk hp os (M.map (·.1)):=λhp k'=>by
  rw[<- me];exact zdA M λx hx=>⟨z8W (U.at_ x (mp.mem_iff.mp hx)) λu e=>k' _ u e,ne x (mp.mem_iff.mp hx)⟩
 obtain⟨p,e,pmp,up⟩:=Pr.zeR (L:=M.map (·.1)) ((mp.map (·.1)).nodup_iff.mpr nd) (.inl (by rw[_w];omega));rw[_w]at pmp;have mem:∀i∈p.toList,i<M.length:=λi hi=>by rw[pmp.mem_iff,_Q]at hi;exact hi
 have e1:kU os p=((p.toList.map λi=>M.getD i ([],0)).map λx=>Value.ref x.2).toArray:=by
  unfold kU;rw[_ai,<- me];congr 1;refine _ay λi hi=>?_;simp[_k,mem i hi]
 have e2:(p.toList.map λi=>(M.map (·.1)).getD i [])=(p.toList.map λi=>M.getD i ([],0)).map (·.1):=by
  rw[_ai];refine _ay λi hi=>?_;simp[_k,mem i hi]
 have e3:(p.toList.map λi=>M.getD i ([],0)).Perm L:=by
  have:=pmp.map λi=>M.getD i ([],0);have er:(List.range M.length).map (λi=>M.getD i ([],0))=M:=by
   apply _a7;·simp
   ·intro i h1 h2;simp[_k,h2]
  rw[er]at this;exact this.trans mp
 rw[e2]at up;refine _a (_X (_I _cZ ⟨_,g,rfl⟩ _cN (jF g (λhp k'=>tM hp λb u e=>k' b u (_t (_l (k b u e))) (by rw[_bk _ _ _ (_t (_l (k b u e)))];exact k b u e)) s1 (z9h e) ?_) (_c0 _)));rw[e1];generalize p.toList.map (λi=>M.getD i ([],0))=M' at *;obtain⟨c,e⟩:=sortedHeap_at (vs:=os) (out:=(M'.map λx=>Value.ref x.2).toArray) g;refine⟨_,rfl,_b ⟨_,rfl,q _ tk _ M' c e3 (jp xt (e3.map (·.1)) (zk2 up)).symm (_b4 big) e λb u eb=>?_⟩⟩;have lb:b<h'.objs.size:=_l (k b u eb);rw[sortedHeap_old (_t lb) (by rw[_dT];exact _aa lb),_bk _ _ _ (_t lb)];exact k b u eb
end
structure ziH(prog:Program)(w:World)(o:Obj)(es:Array (Int×Value))(ep:Nat)(t:SetTable)(L:List (List Int×Addr)):Prop where
 ex:o.ExactSet
 hd:o.data=.set es ep t
 mm:Msk t.mask
 du:t.dummies=#[]
 le:t.led=(!w.params.followText "set-order")
 pl:t.plain=true
 ri:Ris t.place
 sz:t.place.size=es.size
 fl:es.size*5<t.mask*3
 eL:es.toList=L.map λx=>(qD prog w x.1,Value.ref x.2)
theorem z1d.v{prog:Program}{w:World}{h:Heap}{o:Obj}{es:Array (Int×Value)}{ep:Nat}{t:SetTable}{L:List (List Int×Addr)}(U:z1d prog w h o es ep t L):ziH prog w o es ep t L:=⟨U.ex,U.hd,U.mm,U.du,U.le,U.pl,U.ri,U.sz,U.fl,U.eL⟩
theorem ziH.u{prog:Program}{w:World}{h:Heap}{o:Obj}{es:Array (Int×Value)}{ep:Nat}{t:SetTable}{L:List (List Int×Addr)}(U:ziH prog w o es ep t L)(k:∀x∈L,IsTupleKey (intKind prog w) h x.1 x.2):z1d prog w h o es ep t L:=⟨U.ex,U.hd,U.mm,U.du,U.le,U.pl,U.ri,U.sz,U.fl,U.eL,k⟩
theorem z28{prog:Program}{w:World}:∀{vs:List Value}{ns:List Int},wo vs ns->ItemsAre (intKind prog w) ns vs
 | _,_,.nil=>.nil | _,_,.cons h=>.cons (intKind_is prog w _ _) (z28 h)
section
variable {X:Cx}{E:XK}
def z8F(X:Cx)(a:Addr)(L:List (List Int×Addr)):HO:=.ext λh=>∃o es ep t,h.get? a=some o/\ziH X.prog X.w o es ep t L
theorem jC{pins:List (Addr×Obj)}{O:L2.St}{H:Hp}{s:Shared}(I:Inv X pins O H s){b:Addr}{ns:List Int}(a:AtN H (.ref b) ns):IsTupleKey (intKind X.prog X.w) s.heap ns b:=by
 obtain⟨b',its,e,e',⟨o,g,c,k,d⟩,z⟩:=a.tuple I (show yg (.ref b) (.ref b) from rfl);cases e;exact⟨o,its,k,g,c,d,z28 z⟩
theorem zav{H:Hp}:∀{ys:List V}{its:List Value}{ps:List (List Int)},yd ys its->Paired (λv ns=>AtN H v ns) ys ps->∃bs:List Addr,its=bs.map Value.ref/\ps.length=bs.length/\∀i,i<bs.length->AtN H (.ref (bs.getD i 0)) (ps.getD i [])
 | _,_,_,.nil,.nil=>⟨[],rfl,rfl,λi hi=>by simp at hi⟩ | _,_,_,.cons (b:=v) r rs,.cons (b:=p) a ps=>by
  obtain⟨bs,h1,h2,h3⟩:=zav rs ps;obtain⟨b,rfl,e⟩:=a;cases (show v=Value.ref b from r);refine⟨b::bs,by rw[h1];rfl,by simp[h2],λi hi=>?_⟩;cases i with
  | zero=>exact⟨b,rfl,e⟩ | succ i=>exact h3 i (by simpa using hi)
def zjN(X:Cx):List V->Hp->VK->Prop:=λxs H Q=>∃(l:Addr)(ys:List V)(ps:List (List Int)),xs=[.ref l]/\SqL X.K H l ys/\Paired (λv ns=>AtN H v ns) ys ps/\ps.Nodup/\ps.length<=70/\ ∀L p,(L.map (·.1)).Perm ps->(∀x∈L,AtN H (.ref x.2) x.1)->H p=none->Q (.ref p) (upd H p (z8F X p L))
theorem z8p (hc:X.calm=true) (hu:X.A.units+64<cLine):yN X (.type "set") (zjN X):=by
 intro pins s O H xs us Q I r h;obtain⟨l,ys,ps,rfl,hq,hp,nd,h70,q⟩:=h;obtain⟨u,rfl,ru⟩:=vals1 r;cases (show u=Value.ref l from ru);obtain⟨its,r',pl,hz⟩:=I.list hq;obtain⟨bs,e1,e2,e3⟩:=zav r' hp;refine zb5 (I.ok.hd hc) (by omega) pl.isList (ks:=ps) (bs:=bs) (by simpa using e1) e2 (λi hi=>jC I (e3 i hi)) nd (by omega) λh' tk o es ep t L ho U pm k=>?_;refine⟨.ref _,_,I.laid (o:=z8F X s.heap.objs.size L) (t':=tk) k (_h _) ⟨⟨o,es,ep,t,ho,U.v⟩,⟨o,ho⟩,λh1 h2 ⟨o1,es1,ep1,t1,g1,i1⟩ z=>⟨o1,es1,ep1,t1,z o1 g1,i1⟩⟩,rfl,q L _ (zay e2 pm) (λx hx=>?_) (I.hok.fresh (_h _))⟩;obtain⟨i,hi,rfl⟩:=_A.mp (pm.mem_iff.mp hx);exact e3 i (_Q.mp hi)
def zhG(X:Cx):List V->Hp->VK->Prop:=λxs H Q=>∃(a:Addr)(L:List (List Int×Addr)),xs=[.ref a]/\H a=some (z8F X a L)/\(∀x∈L,AtN H (.ref x.2) x.1/\x.1≠[])/\(L.map (·.1)).Nodup/\L.length<64/\ ∀zs,Paired (λv ns=>AtN H v ns) zs (jR lexN (L.map (·.1)))->∀p,H p=none->Q (.ref p) (upd H p (.lst zs))
theorem zde{H:Hp}:∀L:List (List Int×Addr),(∀x∈L,AtN H (.ref x.2) x.1)->Paired (λv ns=>AtN H v ns) (L.map λx=>V.ref x.2) (L.map (·.1))/\yd (L.map λx=>V.ref x.2) (L.map λx=>Value.ref x.2)
 | [],_=>⟨.nil,.nil⟩ | x::L,h=>by
  obtain⟨h1,h2⟩:=zde L λy hy=>h y (.tail _ hy);exact⟨.cons (h x (.head _)) h1,.cons rfl h2⟩
theorem z7M (hc:X.calm=true):yN X (.builtin "sorted") (zhG X):=by
 intro pins s O H xs us Q I r h;obtain⟨a,L,rfl,ha,hx,nd,h64,q⟩:=h;obtain⟨u,rfl,ru⟩:=vals1 r;cases (show u=Value.ref a from ru);obtain⟨⟨o,es,ep,t,ho,hV⟩,_,_⟩:=(show yq X.prog X.w H s.heap a (z8F X a L) from I.hok a _ ha);refine z5O (I.ok.hd hc) ho (hV.u λx m=>jC I (hx x m).1) (λx m=>(hx x m).2) nd h64 λh' tk r L' c pm so le g k=>?_;obtain⟨p1,p2⟩:=zde L' λx m=>(hx x (pm.mem_iff.mp m)).1;rw[so]at p1;have ll:=pm.length_eq;exact⟨.ref r,_,I.laid (o:=.lst (L'.map λx=>V.ref x.2)) (t':=tk) k le ⟨by simp[_aM];omega,_,c,p2,g⟩,rfl,q _ p1 _ (I.hok.fresh le)⟩
end
theorem zeu(L:List (List Int)):(jR lexN L).Pairwise λa b=>lexN b a=false:=by
 have ng:∀{a b c:List Int},lexN b a=false->lexN c b=false->lexN c a=false:=λ{a b c} h1 h2=>by cases q:lexN c a with
  | false=>rfl | true=>
   by_cases e:a=b;·rw[e,h2]at q;cases q
   ·have:=xt.tot a b e;rw[h1]at this;have ab:lexN a b=true:=by simpa using this.symm
    rw[xt.tr c a b q ab]at h2;cases h2
 have:=_b2 (le:=λa b:List Int=>!lexN b a) (λa b c h1 h2=>by
  simp only[_dl]at h1 h2 ⊢;exact ng h1 h2) (λa b=>by
  by_cases e:a=b;·rw[e,xt.irr];rfl
  ·rw[xt.tot a b e];cases lexN a b<;>rfl) L;exact this.imp λ{a b} h=>by simpa using h
theorem z2N{L M:List (List Int)}(h:L.Perm M):jR lexN L=jR lexN M:=jp xt ((jQ lexN M).trans h.symm) (zeu M)
theorem AtN.up{H:Hp}{z:Addr}{o:HO}{v:V}{ns:List Int}(hz:H z=none)(a:AtN H v ns):AtN (upd H z o) v ns:=by
 obtain⟨b,rfl,e⟩:=a;exact⟨b,rfl,by rw[zn (λq=>by subst q;rw[hz]at e;cases e)];exact e⟩
theorem z4l{H:Hp}{z:Addr}{o:HO}(hz:H z=none):∀{zs:List V}{ps:List (List Int)},Paired (λv ns=>AtN H v ns) zs ps->Paired (λv ns=>AtN (upd H z o) v ns) zs ps
 | _,_,.nil=>.nil | _,_,.cons a r=>.cons (a.up hz) (z4l hz r)
section
variable {X:Cx}{E:XK}{a:Expr}{x y:Str}{p p2 pos pos2:Pos}
def z9Q(s:Sto)(d:D):Option (List (List Int)):=match listOf s d with
 | some xs=>match z0g xs with
  | some L=>if L.all (λn=>!n.isEmpty)=true/\L.length<=63/\L.Nodup then some (jR lexN L) else none | none=>none
 | none=>none
def eSU(fa:FE):FE:=fun ρ s=>(fa ρ s).bind λd s1=>match z9Q s1 d with
 | some L=>.ok (.lst (L.map λns=>.tup (ns.map D.int))) s1 | none=>.no
theorem zlj{fa:FE}(hc:X.calm=true)(hu:X.A.units+64<cLine)(ha:RE X E a fa)(hg:Gl X x)(hm:X.mg x=none)(hv:bootBuiltins x=some (.builtin "sorted"))(hg2:Gl X y)(hm2:X.mg y=none)(hv2:bootBuiltins y=some (.type "set")) (hn:x≠"__name__":=by decide)(hdb:(x==("__debug__":Str))=false:=by decide)(hn2:y≠"__name__":=by decide)(hdb2:(y==("__debug__":Str))=false:=by decide) (h1:starEach [.Call (.Name y p2) [a] [] pos2] X.env=(false,eval (.Call (.Name y p2) [a] [] pos2) X.env)::starEach [] X.env:=by rfl)(h2:(backTo pos (starEach [] X.env)).any (·.1)=false:=by rfl) (h3:starEach [a] X.env=(false,eval a X.env)::starEach [] X.env:=by rfl)(h4:(backTo pos2 (starEach [] X.env)).any (·.1)=false:=by rfl): RE X E (.Call (.Name x p) [.Call (.Name y p2) [a] [] pos2] [] pos) (eSU fa):= zQ (PE.freeze (z0a (z7M hc) hg hm hv (ut (z4Q (z8p hc hu) hg2 hm2 hv2 (ut ha z0G h3) hn2 hdb2 h3 h4) z0G h1) hn hdb h1 h2)) λO H Q ⟨Y,ρ,s,r,en,h⟩=>by
  refine zM (k:=fun ρ d s1=>match z9Q s1 d with
   | some L=>R.ok (D.lst (L.map λns=>.tup (ns.map D.int))) s1 | none=>.no) r en h _ λu H1 Y1 s1 du r1 en1 dn stp h1=>?_;split at h1
  ·rename_i L e;unfold z9Q at e;split at e
   ·rename_i xs ex;split at e
    ·rename_i ps eL;split at e
     ·rename_i hp;cases e;obtain⟨l,ws,rfl,q1,q2⟩:=zF r1 ex dn;refine⟨l,ws,ps,rfl,.inl q1,jN eL q2,hp.2.2,_ad hp.2.1 (by decide),λL2 q pm at_ hq=>?_⟩;refine⟨q,L2,rfl,zC,λx hx=>⟨(at_ x hx).up hq,λz=>?_⟩,pm.nodup_iff.mpr hp.2.2,by have h1:=pm.length_eq;have h2:=hp.2.1;rw[_w]at h1;omega,λzs pz z hz=>⟨z,_,rfl,zC,λo=>?_⟩⟩
      ·have:=_V.mp hp.1 x.1 (pm.mem_iff.mp (_A.mpr ⟨x,hx,rfl⟩));rw[z]at this;cases this
      ·rw[z99];rw[z2N pm]at pz;have st1:yX (gm X) H1 Y1 (upd H1 q (z8F X q L2)) Y1 s1:=yX.layP r1 hq;have st2:=st1.trans (yX.layP (o:=.frz o (.lst zs)) st1.rep hz);refine h1 _ _ _ st2 ?_;simp only[Den];exact⟨z,o,_,rfl,zC,z4x (z4l hz pz)⟩
     ·cases e
    ·cases e
   ·cases e
  ·exact h1.elim
end
open Pm
def ltX(a b:Str):Bool:=decide (a.cps.toList<b.cps.toList)
theorem zbc:jG ltX:=⟨λa=>strKind.irrefl a.cps.toList,λa b h=>by cases q:ltX a b with
  | true=> cases q2:ltX b a with
   | true=>exact absurd (strKind.trans a.cps.toList b.cps.toList a.cps.toList q q2) (by rw[show strKind.blt a.cps.toList a.cps.toList=false from strKind.irrefl _];exact _R) | false=>rfl
  | false=> cases q2:ltX b a with
   | true=>rfl | false=>
    refine absurd ?_ h;have e:a.cps.toList=b.cps.toList:=strKind.total a.cps.toList b.cps.toList q q2;cases a;cases b;simp only[Array.toList_inj]at e;rw[e],λa b c=>strKind.trans a.cps.toList b.cps.toList c.cps.toList⟩
def z4e:List D->Option (List Str)
 | []=>some [] | .str a::r=>(z4e r).map (a::·) | _=>none
theorem z6K:∀{xs:List D}{ns:List Str},z4e xs=some ns->xs=ns.map D.str
 | [],_,e=>by simp[z4e]at e;subst e;rfl | x::xs,ns,e=>by
  unfold z4e at e;split at e;·rename_i h;cases h
  ·rename_i a r h;cases h;cases q:z4e xs with
   | none=>rw[q]at e;simp at e | some t=>
    rw[q]at e;simp only[_H,_u]at e;subst e;rw[z6K q];rfl
  ·cases e
theorem z46:∀{mg:Gm}{H:Hp}{Y:List Addr}{ns:List Str}{vs:List V},zm mg H Y (ns.map D.str) vs->vs=ns.map V.str
 | _,_,_,[],_,h=>by simpa[zm] using h | mg,H,Y,n::ns,vs,h=>by
  simp only[_j,zm]at h;obtain⟨v,r,rfl,h1,h2⟩:=h;rw[jP h1,z46 h2];rfl
theorem z4O(mg:Gm)(H:Hp)(Y:List Addr):∀ns:List Str,zm mg H Y (ns.map D.str) (ns.map V.str)
 | []=>by simp[zm] | n::ns=>by simp only[_j];exact zm.cons (by simp[Den]) (z4O mg H Y ns)
theorem z6M:∀{ns:List Str}{vs:List Value},yd (ns.map V.str) vs->StrsAre vs ns
 | [],_,.nil=>.nil | n::ns,_,.cons ⟨t,e⟩ r=>by subst e;exact .cons _ _ (z6M r)
theorem z6Z:∀{ns:List Str}{vs:List Value},StrsAre vs ns->yd (ns.map V.str) vs
 | _,_,.nil=>.nil | _,_,.cons _ _ r=>.cons ⟨_,rfl⟩ (z6Z r)
theorem zdJ:∀(r:List Str)(x:Str),risingS x r=true->(x::r).Pairwise λa b=>ltX b a=false
 | [],x,_=>List.pairwise_singleton _ _ | y::r,x,h=>by
  simp only[risingS,ltCps_eq,_T,_dl]at h;have ih:=zdJ r y h.2;have h1:ltX y x=false:=h.1;rw[_bb];refine⟨λz hz=>?_,ih⟩;rcases _p.mp hz with rfl | hz;·exact h1
  ·have h2:=(_bb.mp ih).1 z hz;cases q:ltX z x with
   | false=>rfl | true=>
    rcases strKind.negTrans z.cps.toList y.cps.toList x.cps.toList q with q | q;·exact absurd (q.symm.trans h2) (by decide)
    ·exact absurd (q.symm.trans h1) (by decide)
theorem zgA:∀{l:List Str},sortedS l=true->l.Pairwise λa b=>ltX b a=false
 | [],_=>.nil | x::r,h=>zdJ r x h
section
variable {X:Cx}{E:XK}
def zgr(K:W.Frag):List V->Hp->VK->Prop:=λxs H Q=>∃(l:Addr)(ns:List Str),xs=[.ref l]/\SqL K H l (ns.map V.str)/\ns.length<64/\∀r,H r=none->Q (.ref r) (upd H r (.lst ((jR ltX ns).map V.str)))
theorem z8n:yN X (.builtin "sorted") (zgr X.K):=by
 intro pins s O H xs us Q I r h;obtain⟨l,ns,rfl,hq,h2,q⟩:=h;obtain⟨u,rfl,rx⟩:=vals1 r;cases rx;obtain⟨its,r',pl,hz⟩:=I.list hq;have hlen:=r'.length;rw[_w]at hlen;rw[_w]at hz;refine sorted_strs pl.isList (z6M r') (by omega) λout ss so pm sr=>?_;have b1:=z6Z so;rw[<- jp zbc pm (zgA sr)]at b1;obtain⟨c',e⟩:=_dU s.heap its out;refine⟨.ref (s.heap.objs.size+1),_,I.laid (t':=s.toks) (λb o z=>_dq z) (_br _) (show yq X.prog X.w _ (sortedAll s.heap its out) _ (.lst ((jR ltX ns).map V.str)) from⟨?_,_,c',b1,by simpa using e⟩),rfl,q _ (I.hok.fresh (_br _))⟩;rw[_w,(jQ ltX ns).length_eq];exact hz
def z4t:List D->Sto->R D
 | [d],s=>match listOf s d with
  | some xs=>match z4e xs with
   | some ns=>if ns.length<64 then .ok (.lst ((jR ltX ns).map D.str)) s else .no | none=>.no
  | none=>.no
 | _,_=>.no
theorem zep:∃r,yN X (.builtin "sorted") r/\jJ X E r z4t:=⟨_,z8n.freeze,λH Y s ds vs Q r hd h=>by
 unfold z4t at h;split at h
 ·split at h
  ·rename_i d xs e;split at h
   ·rename_i ns en;split at h
    ·rename_i h2;obtain⟨v,rfl,dn⟩:=jV hd;obtain⟨a,ws,rfl,q1,q2⟩:=zF r e dn;rw[z6K en]at q2;rw[z46 q2]at q1;exact⟨a,ns,rfl,.inl q1,h2,vc r h (z4O _ _ _ _)⟩
    ·exact h.elim
   ·exact h.elim
  ·exact h.elim
 ·exact h.elim⟩
end
end Dd
namespace K33
open L2 Dd Pg
@[simp] def z0i:FS:=(vh 2 (zd Pg.we (za (zd Pg.yC (za (zc 0) (za (zc 1) zi))) zi)))
@[simp] def z19:FS:=(vh 3 (zd Pg.vi (za (zc 2) zi)))
@[simp] def kf:FS:=(vh 4 (zd Pg.wf (za (zc 3) zi)))
@[simp] def jU:FS:=(vh 5 (zK (yG (zc 4)) [none,none] (xI 0 1) xJ (kC (za (zc 1) (za (zc 0) zi)))))
@[simp] def zfj:FS:=(wg (eC (.bl false)))
@[simp] def jX:FS:=(fIf (fOr (tOf (eOp dNe (zd z4t (za (zK (yG (zc 4)) [none,none] (xI 0 1) xJ (zc 0)) zi)) (zd Pg.yp zi))) (tOf (eOp dNe (zc 5) (zd z1P (za (zc 5) zi))))) zfj xM)
@[simp] def zbS:FS:=(wg (eC (.bl false)))
@[simp] def z0y:FS:=(fIf (fOr (tOf (eOp dNe (zc 7) (zd Pg.zD (za (zc 6) (za (zc 3) zi))))) (tOf (eOp dNe (zc 7) (zd vW (za (zd Pg.xE (za (zc 6) (za (zc 3) zi))) zi))))) zbS xM)
@[simp] def zcq:FS:=(wg (eC (.bl false)))
@[simp] def js:FS:=(fIf (tOf (eOp dNe (eOp wP (zc 7) (eC (.int 1))) (zd vW (za (jh (zd Pg.M_run (za (zc 6) (za (zc 3) zi)))) zi)))) zcq xM)
@[simp] def zcz:FS:=(wg (eC (.bl false)))
@[simp] def jM:FS:=(fIf (zgg (z3D (tOf (zd Pg.zH (za (zc 3) zi)))) (tOf (eOp dNe (zd Pg.zD (za (zc 6) (za (zd Pg.M_step (za (zc 6) (za (zc 3) zi))) zi))) (eOp zbj (zc 7) (eC (.int 1)))))) zcz xM)
@[simp] def zcY:FS:=(wg (eC (.bl false)))
@[simp] def jD:FS:=(fIf (tOf (eOp dNe (zd Pg.yo (za (zc 6) (za (zc 6) (za (zc 3) zi)))) (eOp wP (zc 7) (eC (.int 1))))) zcY xM)
@[simp] def z0B:FS:=(z9p (yG (zc 4)) (xI 6 7) (zA z0y (zA js (zA jM jD))))
@[simp] def ju:FS:=(zbo (kC (za (eOp dIx (zd Pg.yp zi) (zd Pg.zh (za (zc 2) (za (eC (.int 4)) zi)))) (za (eOp dIx (zd Pg.yp zi) (zd Pg.zh (za (zc 2) (za (eC (.int 4)) zi)))) zi))) (xI 8 9))
@[simp] def uL:FS:=(vh 10 (zd Pg.yo (za (zc 8) (za (zc 9) (za (zc 3) zi)))))
@[simp] def zcB:FS:=(wg (eC (.bl false)))
@[simp] def uP:FS:=(fIf (fOr (tOf (eOp dNe (zc 10) (zd Pg.yo (za (zc 9) (za (zc 8) (za (zc 3) zi)))))) (tOf (eOp dLt (zc 10) (eC (.int 1))))) zcB xM)
@[simp] def uS:FS:=(zkf 11 12 (za (eSl (jh (zd Pg.M_run (za (zc 8) (za (zc 3) zi)))) (wZ (eOp zbj (eC (.int 0)) (zc 10))) yj) (za (eSl (jh (zd Pg.M_run (za (zc 9) (za (zc 3) zi)))) (wZ (eOp zbj (eC (.int 0)) (zc 10))) yj) zi)))
@[simp] def zcn:FS:=(wg (eC (.bl false)))
@[simp] def uQ:FS:=(fIf (tOf (eOp dNe (zK (yG (zc 11)) [none] (wH 0) xJ (zd vS (za (zc 0) zi))) (zK (yG (zc 12)) [none] (wH 0) xJ (zd vS (za (zc 0) zi))))) zcn xM)
@[simp] def uT:FS:=(zbo (kC (za (eOp wP (eC (.int 2)) (zd Pg.zh (za (zc 2) (za (eC (.int 2)) zi)))) (za (eOp wP (eC (.int 1)) (zd Pg.zh (za (zc 2) (za (eC (.int 6)) zi)))) zi))) (xI 13 14))
@[simp] def uR:FS:=(zbo (zd Pg.xo (za (zc 8) (za (zc 13) (za (zc 14) zi)))) (xI 15 16))
@[simp] def vB:FS:=(vh 17 (zd uv (za (zK (z5g (za (zc 13) zi)) [some 2,some 14,none] (wH 2) xJ (zd Pg.zh (za (zc 0) (za (eOp wP (zc 1) (eC (.int 1))) zi)))) zi)))
@[simp] def zbL:FS:=(wg (eC (.bl false)))
@[simp] def uN:FS:=(fIf (fOr (tOf (eOp (zeP true) (zK (yG (zc 16)) [some 8,none] (wH 1) xJ (zd Pg.zD (za (zc 0) (za (zc 1) zi)))) (eOp zgQ (z9n (za (zc 15) zi)) (zd vW (za (zc 16) zi))))) (tOf (eOp (zeP true) (zc 16) (eSU (zc 16))))) zbL xM)
@[simp] def vM:FS:=(vh 7 (eC (.int 0)))
@[simp] def z70:FS:=(vh 7 (zd Pg.zD (za (zc 8) (za (zc 17) zi))))
@[simp] def xX:FS:=(fIf (tOf (eOp dGt (zd va (za (zc 17) zi)) (eC (.int 0)))) z70 xM)
@[simp] def zbQ:FS:=(wg (eC (.bl false)))
@[simp] def xZ:FS:=(fIf (fOr (tOf (eOp dGt (zc 7) (zc 15))) (zgg (tOf (eOp dGt (zd va (za (zc 17) zi)) (eC (.int 0)))) (tOf (eOp dNe (eOp dEq (zc 7) (zc 15)) (eOp (zgi false) (zc 17) (zc 16)))))) zbQ xM)
@[simp] def z5P:FS:=(z9p (z5g (za (zd zcw (za (eC (.int 1)) (za (zd zcW (za (zd vW (za (zc 0) zi)) (za (eC (.int 8)) zi))) zi))) zi)) (wH 1) (zA z0i (zA z19 (zA kf (zA jU (zA jX (zA z0B (zA ju (zA uL (zA uP (zA uS (zA uQ (zA uT (zA uR (zA vB (zA uN (zA vM (zA xX xZ))))))))))))))))))
@[simp] def zcA:FS:=(wg (eC (.bl true)))
def zda:FS:=(zA z5P zcA)
def zfB:Mir:=Mof ["_law_script","_law_k","_law_pot_here","_law_lot_here","_law_some","_law_turned","_law_rule","_law_steps","_law_one","_law_other","_law_many","_law_mine","_law_own","_law_size","_law_number","_law_most","_law_lots","_law_small"] 1 zda
end K33
set_option maxHeartbeats 6000000
namespace K33
open L2 Dd Pg
structure Txt(mg:Str->Option Value):Prop where
 f0:∃t,mg "LEAST_SIZE"=some (.int 2 t)
 f1:∃t,mg "MOST_NUMBER"=some (.int 8 t)
 f2:∃t,mg "MOST_SIZE"=some (.int 4 t)
 f3:mg "all"=none
 f4:mg "bool"=none
 f5:mg "int"=none
 f6:mg "isinstance"=none
 f7:mg "len"=none
 f8:mg "list"=none
 f9:mg "max"=none
 f10:mg "min"=none
 f11:mg "range"=none
 f12:mg "set"=none
 f13:mg "sorted"=none
 f14:mg "str"=none
 f15:mg "tuple"=none
 f16:mg "zip"=none
theorem zgo:bootBuiltins "all"=some (.builtin "all"):=by decide +kernel
theorem zfC:bootBuiltins "bool"=some (.type "bool"):=by decide +kernel
theorem zdF:bootBuiltins "int"=some (.type "int"):=by decide +kernel
theorem vf:bootBuiltins "len"=some (.builtin "len"):=by decide +kernel
theorem jc:bootBuiltins "max"=some (.builtin "max"):=by decide +kernel
theorem zar:bootBuiltins "min"=some (.builtin "min"):=by decide +kernel
theorem zht:bootBuiltins "set"=some (.type "set"):=by decide +kernel
theorem xp:bootBuiltins "sorted"=some (.builtin "sorted"):=by decide +kernel
theorem zhv:bootBuiltins "str"=some (.type "str"):=by decide +kernel
theorem wL:bootBuiltins "tuple"=some (.type "tuple"):=by decide +kernel
theorem zkH:(["_law_rule","_law_steps"]:List Str).Nodup:=by decide +kernel
theorem zkt:(["_law_here"]:List Str).Nodup:=by decide +kernel
theorem zle:(["_law_pot_here","_law_number","_law_place"]:List Str).Nodup:=by decide +kernel
theorem zlu:(["_law_one","_law_here"]:List Str).Nodup:=by decide +kernel
theorem zku:(["number"]:List Str).Nodup:=by decide +kernel
theorem zkW:(["part"]:List Str).Nodup:=by decide +kernel
theorem zlb:(["lot","by","number","quotient"]:List Str).Nodup:=by decide +kernel
theorem zkZ:(["divided","lot","by","at"]:List Str).Nodup:=by decide +kernel
theorem zlg:(["place","at"]:List Str).Nodup:=by decide +kernel
theorem zlf:(["rule","ahead"]:List Str).Nodup:=by decide +kernel
theorem ziX:(["rule","by","line","quotient"]:List Str).Nodup:=by decide +kernel
theorem zkn:(["places","line"]:List Str).Nodup:=by decide +kernel
theorem zk7:(["line","column"]:List Str).Nodup:=by decide +kernel
theorem ziV:(["_law_more","_law_number"]:List Str).Nodup:=by decide +kernel
theorem zjt:(["lot","rule"]:List Str).Nodup:=by decide +kernel
theorem zkp:(["steps","rule"]:List Str).Nodup:=by decide +kernel
theorem zka:(["most","steps","lot"]:List Str).Nodup:=by decide +kernel
theorem zi7:(["least","most","ahead","number"]:List Str).Nodup:=by decide +kernel
section
local macro_rules | `(tactic| trivial)=>`(tactic| exact⟨rfl,rfl,rfl,by decide +kernel,rfl,by decide +kernel,by decide +kernel⟩)
theorem z67:zu ["thing"] ["thing"] (zg qO):=by trivial
theorem z6d:zu ["thing"] ["thing"] (zg qF):=by trivial
theorem yR:zu ["size","least","most","found","place"] ["size","least","most"] (zg xF):=by trivial
theorem qm:zu ["size","places"] ["size"] (zg vb):=by trivial
theorem xD:zu ["lot","at"] ["lot"] (zg yH):=by trivial
theorem z1h:zu ["lot"] ["lot"] (zg wY):=by trivial
theorem z7Y:zu ["lot","place"] ["lot","place"] (zg kq):=by trivial
theorem z7J:zu ["thing"] ["thing"] (zg jW):=by trivial
theorem zbG:zu ["rule","numbers"] ["rule","numbers"] (zg z3e):=by trivial
theorem z0s:zu ["_law_script","_law_k"] ["_law_script","_law_k"] (zg ww):=by trivial
theorem xH:zu ["_law_cell","_law_number","_law_j","_law_more"] ["_law_cell"] (zg qU):=by trivial
theorem kA:zu ["_law_pot_here","_law_far","_law_found"] ["_law_pot_here","_law_far"] (zg uK):=by trivial
theorem z36:zu [] [] (zg vt):=by trivial
theorem z2V:zu ["thing","many"] ["thing","many"] (zg vp):=by trivial
theorem z1n:zu ["thing","least","most"] ["thing","least","most"] (zg wU):=by trivial
theorem z3T:zu ["thing","most"] ["thing","most"] (zg uI):=by trivial
theorem z1R:zu ["lot","greatest","others"] ["lot"] (zg kj):=by trivial
theorem z0I:zu ["lot","greatest","others"] ["lot"] (zg qw):=by trivial
theorem z4a:zu ["lot","by"] ["lot"] (zg z0o):=by trivial
theorem z8e:zu ["lot"] ["lot"] (zg kn):=by trivial
theorem z4G:zu ["thing"] ["thing"] (zg uo):=by trivial
theorem yO:zu ["_law_pot_here","_law_size","_law_far","_law_thin","_law_numbers","_law_place","_law_number","_law_more"] ["_law_pot_here"] (zg qM):=by trivial
theorem z90:zu ["thing"] ["thing"] (zg z16):=by trivial
theorem qQ:zu ["rule","lot","deal","by","divided"] ["rule","lot"] (zg qL):=by trivial
theorem z5s:zu ["thing"] ["thing"] (zg qt):=by trivial
theorem z4I:zu ["lot"] ["lot"] (zg ud):=by trivial
theorem uU:zu ["rule","lot"] ["rule","lot"] (zg yW):=by trivial
theorem z4V:zu ["rule","lot"] ["rule","lot"] (zg uH):=by trivial
theorem z5H:zu ["rule","lot","by","quotients","left"] ["rule","lot"] (zg z5A):=by trivial
theorem jj:zu ["rule","lot","by","quotients"] ["rule","lot"] (zg vE):=by trivial
theorem zdb:zu ["rule","lot","lots"] ["rule","lot"] (zg zau):=by trivial
theorem zZ:zu ["rule","size","most","steps","lot","path","many","behind"] ["rule","size","most"] (zg wB):=by trivial
theorem z3M:zu ["rule","lot"] ["rule","lot"] (zg uj):=by trivial
theorem z2M:zu ["rule","lot"] ["rule","lot"] (zg vH):=by trivial
theorem wa:zu ["one","other","lot","many","left","right"] ["one","other","lot"] (zg vC):=by trivial
theorem vL:zu ["rule","size","number","steps","most"] ["rule","size","number"] (zg vJ):=by trivial
theorem z0Z:zu ["lot","found"] ["lot"] (zg qA):=by trivial
theorem wC:zu ["_law_script","_law_k","_law_pot_here","_law_lot_here","_law_some","_law_turned","_law_rule","_law_steps","_law_one","_law_other","_law_many","_law_mine","_law_own","_law_size","_law_number","_law_most","_law_lots","_law_small"] ["_law_script"] (zg z1F):=by trivial
end
section
variable {P:Program}{w:World}{K:W.Frag}{mg:Str->Option Value}{base:Heap}(T:Txt mg){f:Addr}{fd:FuncData}
include T
local macro_rules | `(tactic| trivial)=>`(tactic| first | exact (λ_ _ _ _ _ _ us hl=>match us,hl with | [],_=>rfl) | exact (λ_ _ _ _ _ _ us hl=>match us,hl with | [_],_=>rfl) | exact (λ_ _ _ _ _ _ us hl=>match us,hl with | [_,_],_=>rfl) | exact (λ_ _ _ _ _ _ us hl=>match us,hl with | [_,_,_],_=>rfl))
theorem z4T(F:Fun K "is_whole" "is_whole" qO f fd)(hm:mg "is_whole"=some (.ref f))  : Has P w K mg base CX0 "is_whole" 1 Pg.yc:= (zO F hm (F.binds (ps:=["thing"]) (by trivial)) z67 rfl λcdv A outer s H E hr hc=> have hu:=hr.units;(zj (ya (zcH (zh7 (by decide) zdF (by rfl) T.f6 (by rfl) T.f5 (zb 0)) (zcf (zjx (zh7 (by decide) zfC (by rfl) T.f6 (by rfl) T.f4 (zb 0))))))))
theorem z4C (F:Fun K "has_size" "has_size" qF f fd) (hm:mg "has_size"=some (.ref f))  : Has P w K mg base CX0 "has_size" 1 Pg.wd:= (zO F hm (F.binds (ps:=["thing"]) (by trivial)) z6d rfl λcdv A outer s H E hr hc=> have hu:=hr.units;(zj (ya (zcH (zh7 (by decide) wL (by rfl) T.f6 (by rfl) T.f15 (zb 0)) (zcf (zfo zgd zgd (ziy (by rfl) T.f0) (zG jS (by rfl) T.f7 vf (aN (zb 0) ze) (he:=(zB ..))) (ziy (by rfl) T.f2)))))))
theorem jk(F:Fun K "tuples_between" "tuples_between" xF f fd)(hm:mg "tuples_between"=some (.ref f))  : Has P w K mg base CX0 "tuples_between" 1 Pg.zR:= (zO F hm (F.binds (ps:=["size","least","most"]) (by trivial)) yR rfl λcdv A outer s H E hr hc=> have hu:=hr.units;(zf (yY 3 yR.nd (z5G (aT (vZ ze) ze))) (zf (z4E _aH hc (qG (by rfl) T.f11 (aN (zb 0) ze)) (z29 4 yR.nd) (zj (zfG 3 ["least","most","ahead","number"] [some 1,some 2,none,none] 2 3 yR.nd hc (uC (zb 3)) (λ_ _ _=>yb (i:=2) zi7 (by rfl) (by first | exact Or.inl rfl | exact Or.inr rfl)) (λ_ _ _=>yb (i:=3) zi7 (by rfl) (by first | exact Or.inl rfl | exact Or.inr rfl)) (λ_ _ _=>(zc8 (by rfl) T.f11 (aN (zb 0) (aB (zT wb (zb 1) zr) ze)))) (λ_ _ _=>(zT wb (zb 2) (vZ (aN (zb 3) ze))))))) (zj (ya (zb 3))))))
theorem z0W (F:Fun K "like_places" "like_places" vb f fd) (hm:mg "like_places"=some (.ref f))  : Has P w K mg base CX0 "like_places" 1 Pg.yU:= (zO F hm (F.binds (ps:=["size"]) (by trivial)) qm rfl λcdv A outer s H E hr hc=> have hu:=hr.units;(zf (yY 1 qm.nd (z66 (by exact hc) (by rfl) T.f8 (by rfl) T.f11 (aN (zb 0) ze))) (zj (ya (qB kr (by rfl) T.f15 wL (aO (yr ["places","line"] [some 1,none] (by exact hc) (uC (zb 1)) (λ_ _ _=>yb (i:=1) zkn (by rfl) (by first | exact Or.inl rfl | exact Or.inr rfl)) (yt 1 (by rfl)) (λ_ _ _=>yV) (λ_ _ _=>(qB kr (by rfl) T.f15 wL (aO (yr ["line","column"] [some 1,none] (by exact hc) (uC (zb 0)) (λ_ _ _=>yb (i:=1) zk7 (by rfl) (by first | exact Or.inl rfl | exact Or.inr rfl)) (yt 1 (by rfl)) (λ_ _ _=>yV) (λ_ _ _=>(zja (zU (zbI hu) (zb 0) (zb 1)) zr zr))) ze) (he:=(yn ..))))) ze) (he:=(yn ..)))))))
theorem vF (F:Fun K "greatest_and_others" "greatest_and_others" yH f fd) (hm:mg "greatest_and_others"=some (.ref f))  : Has P w K mg base CX0 "greatest_and_others" 1 Pg.zq:= (zO F hm (F.binds (ps:=["lot"]) (by trivial)) xD rfl λcdv A outer s H E hr hc=> have hu:=hr.units;(zf (yY 1 xD.nd (z6a (zb 0) (zG (z0v (by exact hc)) (by rfl) T.f9 jc (aN (zb 0) ze) (he:=(zB ..))))) (zj (ya (vZ (aN (zb 1) (aB (zT wb (zT wb (wX (zb 0) qg (qo (zb 1))) (vZ (aK zr ze))) (wX (zb 0) (qo (zT wb (zb 1) zr)) qg)) ze)))))))
theorem z13 (F:Fun K "least_place" "least_place" wY f fd) (hm:mg "least_place"=some (.ref f))  : Has P w K mg base CX0 "least_place" 1 Pg.zP:= (zO F hm (F.binds (ps:=["lot"]) (by trivial)) z1h rfl λcdv A outer s H E hr hc=> have hu:=hr.units;(zj (ya (z6a (zb 0) (zG (zdh (by exact hc)) (by rfl) T.f10 zar (aO (yr ["number"] [none] (by exact hc) (uC (zb 0)) (λ_ _ _=>yb (i:=0) zku (by rfl) (by first | exact Or.inl rfl | exact Or.inr rfl)) (yt 0 (by rfl)) (λ_ _ _=>z2q (zU (z5t hu) (zb 0) zr)) (λ_ _ _=>(zb 0))) ze) (he:=(yn ..)))))))
theorem z6q (F:Fun K "all_but" "all_but" kq f fd) (hm:mg "all_but"=some (.ref f))  : Has P w K mg base CX0 "all_but" 1 Pg.yZ:= (zO F hm (F.binds (ps:=["lot","place"]) (by trivial)) z7Y rfl λcdv A outer s H E hr hc=> have hu:=hr.units;(zj (ya (yr ["place","at"] [some 1,none] (by exact hc) (qG (by rfl) T.f11 (aQ (zG jS (by rfl) T.f7 vf (aN (zb 0) ze) (he:=(zB ..))) ze)) (λ_ _ _=>yb (i:=1) zlg (by rfl) (by first | exact Or.inl rfl | exact Or.inr rfl)) (yt 1 (by rfl)) (λ_ _ _=>z2q (zU (z5t hu) (zb 1) (zb 0))) (λ_ _ _=>(zb 1))))))
theorem z63(F:Fun K "is_rule" "is_rule" jW f fd)(hm:mg "is_rule"=some (.ref f))(T_RULES:zf4 P w K mg "RULES" xg):Has P w K mg base CX0 "is_rule" 1 Pg.uc:= (zO F hm (F.binds (ps:=["thing"]) (by trivial)) z7J rfl λcdv A outer s H E hr hc=> have hu:=hr.units;(zj (ya (zcH (zh7 (by decide) zhv (by rfl) T.f6 (by rfl) T.f14 (zb 0)) (zcf (zfF T_RULES (by rfl) (zb 0)))))))
theorem z9T(F:Fun K "moved" "moved" z3e f fd)(hm:mg "moved"=some (.ref f))  : Has P w K mg base CX0 "moved" 1 Pg.xP:= (zO F hm (F.binds (ps:=["rule","numbers"]) (by trivial)) zbG rfl λcdv A outer s H E hr hc=> have hu:=hr.units;(zj (ya (zja (zU (zbI hu) (zb 0) zaS) (zT wb (wX (zb 1) (qo zr) qg) (wX (zb 1) qg (qo zr))) (zb 1)))))
theorem z00 (F:Fun K "_law_cell_at" "_law_cell_at" ww f fd) (hm:mg "_law_cell_at"=some (.ref f))  : Has P w K mg base CX0 "_law_cell_at" 1 Pg.yC:= (zO F hm (F.binds (ps:=["_law_script","_law_k"]) (by trivial)) z0s rfl λcdv A outer s H E hr hc=> have hu:=hr.units;(zf (z01 (zU zkN (zb 1) (zG jS (by rfl) T.f7 vf (aN (zb 0) ze) (he:=(zB ..)))) (zj (ya (z3F (zb 0) (zb 1)))) yK) (zj (ya zr))))
theorem z4X(F:Fun K "_law_pot" "_law_pot" qU f fd)(hm:mg "_law_pot"=some (.ref f))  : Has P w K mg base CX0 "_law_pot" 1 Pg.we:= (zO F hm (F.binds (ps:=["_law_cell"]) (by trivial)) xH rfl λcdv A outer s H E hr hc=> have hu:=hr.units;(zf (z01 (zU zkb (zb 0) (zT zci zr zr)) (zj (ya (zaM (aB (zT z82 (zb 0) (zT zci zr zr)) ze)))) yK) (zf (yY 1 xH.nd zr) (zf (z4E _aH hc (qG (by rfl) T.f11 (aK zr ze)) (z29 2 xH.nd) (zf (yY 3 xH.nd (zT zc1 (zT kF (zT wb (zT wb (zT zc1 (zb 0) zr) (zT kF zr (zb 2))) zr) zr) zr)) (zf (yY 3 xH.nd (zT zc1 (zT wb (zT wb (zT kF (zb 3) (zb 3)) (zT kF zr (zb 2))) zr) zr)) (zj (yY 1 xH.nd (zT wb (zT kF (zb 1) zr) (zb 3))))))) (zj (ya (zaM (aN (zb 1) ze))))))))
theorem z2g(F:Fun K "_law_take" "_law_take" uK f fd)(hm:mg "_law_take"=some (.ref f))  : Has P w K mg base CX0 "_law_take" 1 Pg.zh:= (zO F hm (F.binds (ps:=["_law_pot_here","_law_far"]) (by trivial)) kA rfl λcdv A outer s H E hr hc=> have hu:=hr.units;(zf (yY 2 kA.nd (zT zc1 (z3F (zb 0) zr) (zb 1))) (zf (z7d (zT zdH (z3F (zb 0) zr) (zb 1)) (zb 0) zr) (zj (ya (zb 2))))))
theorem z1k(F:Fun K "_law_rules" "_law_rules" vt f fd)(hm:mg "_law_rules"=some (.ref f))  : Has P w K mg base CX0 "_law_rules" 1 Pg.yp:= (zO F hm (F.binds (ps:=[]) (by trivial)) z36 rfl λcdv A outer s H E hr hc=> have hu:=hr.units;(zj (ya (z5G (aK zaS (aK zaS (aK zaS (aK zaS ze))))))))
theorem z1o (F:Fun K "are_wholes" "are_wholes" vp f fd) (hm:mg "are_wholes"=some (.ref f)) (H_is_whole:Has P w K mg base CX0 "is_whole" 1 Pg.yc):Has P w K mg base CX0 "are_wholes" 2 Pg.xj:= (zO F hm (F.binds (ps:=["thing","many"]) (by trivial)) z2V rfl λcdv A outer s H E hr hc=> have hu:=hr.units;(zf (z01 (RW.rt (zcQ (kX (z0z (zh7 (by decide) wL (by rfl) T.f6 (by rfl) T.f15 (zb 0)))) (z2Y (zU (z5t hu) (zG jS (by rfl) T.f7 vf (aN (zb 0) ze) (he:=(zB ..))) (zb 1))))) (zj (ya z8v)) yK) (zj (ya (zG (zjM (by exact hc)) (by rfl) T.f3 zgo (aO (yr ["part"] [none] (by exact hc) (uC (zb 0)) (λ_ _ _=>yb (i:=0) zkW (by rfl) (by first | exact Or.inl rfl | exact Or.inr rfl)) (yt 0 (by rfl)) (λ_ _ _=>yV) (λ_ _ _=>(yA H_is_whole hr zx (aN (zb 0) ze)))) ze) (he:=(yn ..)))))))
theorem z0X(F:Fun K "want_number" "want_number" wU f fd)(hm:mg "want_number"=some (.ref f))(H_is_whole:Has P w K mg base CX0 "is_whole" 1 Pg.yc):Has P w K mg base CX0 "want_number" 2 Pg.yS:= (zO F hm (F.binds (ps:=["thing","least","most"]) (by trivial)) z1n rfl λcdv A outer s H E hr hc=> have hu:=hr.units;(zj (z01 (RW.rt (zcQ (kX (z0z (yA H_is_whole hr zx (aN (zb 0) ze)))) (z2Y (kX (za5 zgd zgd (zb 1) (zb 0) (zb 2)))))) (zj z0k) yK)))
theorem z2W(F:Fun K "want_size" "want_size" uI f fd)(hm:mg "want_size"=some (.ref f))(H_is_whole:Has P w K mg base CX0 "is_whole" 1 Pg.yc):Has P w K mg base CX0 "want_size" 2 Pg.xG:= (zO F hm (F.binds (ps:=["thing","most"]) (by trivial)) z3T rfl λcdv A outer s H E hr hc=> have hu:=hr.units;(zj (z01 (RW.rt (zcQ (kX (z0z (yA H_is_whole hr zx (aN (zb 0) ze)))) (z2Y (kX (za5 zgd zgd (ziy (by rfl) T.f0) (zb 0) (zb 1)))))) (zj z0k) yK)))
theorem z5y (F:Fun K "by_next" "by_next" kj f fd) (hm:mg "by_next"=some (.ref f)) (H_greatest_and_others:Has P w K mg base CX0 "greatest_and_others" 1 Pg.zq):Has P w K mg base CX0 "by_next" 2 Pg.xN:= (zO F hm (F.binds (ps:=["lot"]) (by trivial)) z1R rfl λcdv A outer s H E hr hc=> have hu:=hr.units;(zf (z3L (yA H_greatest_and_others hr zx (aN (zb 0) ze)) (qb 1 2 hc z1R.nd)) (zj (ya (vZ (aQ (z6a (zb 2) (zG (z0v (by exact hc)) (by rfl) T.f9 jc (aN (zb 2) ze) (he:=(zB ..)))) (aL (z5G (aN (zb 1) ze)) ze)))))))
theorem z3V(F:Fun K "by_least" "by_least" qw f fd)(hm:mg "by_least"=some (.ref f))(H_greatest_and_others:Has P w K mg base CX0 "greatest_and_others" 1 Pg.zq)(H_least_place:Has P w K mg base CX0 "least_place" 1 Pg.zP):Has P w K mg base CX0 "by_least" 2 Pg.xn:= (zO F hm (F.binds (ps:=["lot"]) (by trivial)) z0I rfl λcdv A outer s H E hr hc=> have hu:=hr.units;(zf (z3L (yA H_greatest_and_others hr zx (aN (zb 0) ze)) (qb 1 2 hc z0I.nd)) (zj (ya (vZ (aQ (yA H_least_place hr zx (aN (zb 2) ze)) (aL (z5G (aN (zb 1) ze)) ze)))))))
theorem z8c(F:Fun K "by_all" "by_all" z0o f fd)(hm:mg "by_all"=some (.ref f))(H_least_place:Has P w K mg base CX0 "least_place" 1 Pg.zP)(H_all_but:Has P w K mg base CX0 "all_but" 1 Pg.yZ):Has P w K mg base CX0 "by_all" 2 Pg.wN:= (zO F hm (F.binds (ps:=["lot"]) (by trivial)) z4a rfl λcdv A outer s H E hr hc=> have hu:=hr.units;(zf (yY 1 z4a.nd (yA H_least_place hr zx (aN (zb 0) ze))) (zj (ya (vZ (aN (zb 1) (aQ (yA H_all_but hr zx (aN (zb 0) (aN (zb 1) ze))) ze)))))))
theorem z5K(F:Fun K "by_turn" "by_turn" kn f fd)(hm:mg "by_turn"=some (.ref f))(H_all_but:Has P w K mg base CX0 "all_but" 1 Pg.yZ):Has P w K mg base CX0 "by_turn" 2 Pg.xO:= (zO F hm (F.binds (ps:=["lot"]) (by trivial)) z8e rfl λcdv A outer s H E hr hc=> have hu:=hr.units;(zf (z01 (zU (zbI hu) (z3F (zb 0) zr) zr) (zj (ya (vZ (aK zr (aL (z5G ze) ze))))) yK) (zj (ya (vZ (aK zr (aQ (yA H_all_but hr zx (aN (zb 0) (aK zr ze))) ze)))))))
theorem z3q(F:Fun K "want_rule" "want_rule" uo f fd)(hm:mg "want_rule"=some (.ref f))(H_is_rule:Has P w K mg base CX0 "is_rule" 1 Pg.uc):Has P w K mg base CX0 "want_rule" 2 Pg.zJ:= (zO F hm (F.binds (ps:=["thing"]) (by trivial)) z4G rfl λcdv A outer s H E hr hc=> have hu:=hr.units;(zj (z01 (kX (z0z (yA H_is_rule hr zx (aN (zb 0) ze)))) (zj z0k) yK)))
theorem z3P (F:Fun K "_law_lot" "_law_lot" qM f fd) (hm:mg "_law_lot"=some (.ref f)) (H__law_take:Has P w K mg base CX0 "_law_take" 1 Pg.zh):Has P w K mg base CX0 "_law_lot" 2 Pg.vi:= (zO F hm (F.binds (ps:=["_law_pot_here"]) (by trivial)) yO rfl λcdv A outer s H E hr hc=> have hu:=hr.units;(zf (yY 1 yO.nd (zT wb zr (yA H__law_take hr zx (aN (zb 0) (aK zr ze))))) (zf (yY 2 yO.nd (z3F (z5G (aK zr (aK zr (aB (zT zci zr zr) (aB (zT zci zr zr) (aK zr (aK zr ze))))))) (yA H__law_take hr zx (aN (zb 0) (aK zr ze))))) (zf (yY 3 yO.nd (yA H__law_take hr zx (aN (zb 0) (aK zr ze)))) (zf (yY 4 yO.nd (zaM ze)) (zf (z4E _aH hc (qG (by rfl) T.f11 (aN (zb 1) ze)) (z29 5 yO.nd) (zf (yY 6 yO.nd (zT wb (yA H__law_take hr zx (aN (zb 0) (aN (zb 2) ze))) zr)) (zj (wF (z3n (zb 4) (zT kF (zb 6) (qB zjH (by rfl) T.f5 zdF (aM (z1L zkb (yA H__law_take hr zx (aN (zb 0) (aK zr ze))) (zb 3)) ze) (he:=(z6D ..))))))))) (zf (z01 (zU (zbI hu) (zG (z0v (by exact hc)) (by rfl) T.f9 jc (aN (zb 4) ze) (he:=(zB ..))) zr) (zj (z7d (zT wb zr (yA H__law_take hr zx (aN (zb 0) (aN (zb 2) ze)))) (zb 4) (yA H__law_take hr zx (aN (zb 0) (aN (zb 1) ze))))) yK) (zf (yY 7 yO.nd (zT wb zr (yA H__law_take hr zx (aN (zb 0) (aK zr ze))))) (zf (z01 (zU (zbI hu) (yA H__law_take hr zx (aN (zb 0) (aK zr ze))) zr) (zj (z7d (z3F (zb 4) (yA H__law_take hr zx (aN (zb 0) (aN (zb 1) ze)))) (zb 4) (yA H__law_take hr zx (aN (zb 0) (aN (zb 1) ze))))) yK) (zf (z01 (zU (zbI hu) (zG (z0v (by exact hc)) (by rfl) T.f9 jc (aN (zb 4) ze) (he:=(zB ..))) zr) (zj (z7d zr (zb 4) zr)) yK) (zj (ya (qB kr (by rfl) T.f15 wL (aO (yr ["_law_more","_law_number"] [some 7,none] (by exact hc) (uC (zb 4)) (λ_ _ _=>yb (i:=1) ziV (by rfl) (by first | exact Or.inl rfl | exact Or.inr rfl)) (yt 1 (by rfl)) (λ_ _ _=>yV) (λ_ _ _=>(zT kF (zb 1) (zb 0)))) ze) (he:=(yn ..))))))))))))))).tidy
theorem z7I (F:Fun K "is_lot" "is_lot" z16 f fd) (hm:mg "is_lot"=some (.ref f)) (H_has_size:Has P w K mg base CX0 "has_size" 1 Pg.wd) (H_are_wholes:Has P w K mg base CX0 "are_wholes" 2 Pg.xj):Has P w K mg base CX0 "is_lot" 3 Pg.vz:= (zO F hm (F.binds (ps:=["thing"]) (by trivial)) z90 rfl λcdv A outer s H E hr hc=> have hu:=hr.units;(zf (z01 (RW.rt (zcQ (kX (z0z (yA H_has_size hr zx (aN (zb 0) ze)))) (z2Y (kX (z0z (yA H_are_wholes hr zx (aN (zb 0) (aQ (zG jS (by rfl) T.f7 vf (aN (zb 0) ze) (he:=(zB ..))) ze)))))))) (zj (ya z8v)) yK) (zj (ya (zcH (z1L zkb (zG (zdh (by exact hc)) (by rfl) T.f10 zar (aN (zb 0) ze) (he:=(zB ..))) zr) (zcf (z1L ziO (zG (z0v (by exact hc)) (by rfl) T.f9 jc (aN (zb 0) ze) (he:=(zB ..))) zr)))))))
theorem z3I (F:Fun K "division" "division" qL f fd) (hm:mg "division"=some (.ref f)) (T_RULES:zf4 P w K mg "RULES" xg) (H_by_next:Has P w K mg base CX0 "by_next" 2 Pg.xN) (H_by_least:Has P w K mg base CX0 "by_least" 2 Pg.xn) (H_by_all:Has P w K mg base CX0 "by_all" 2 Pg.wN) (H_by_turn:Has P w K mg base CX0 "by_turn" 2 Pg.xO):Has P w K mg base CX0 "division" 3 Pg.yF:= (zO F hm (F.binds (ps:=["rule","lot"]) (by trivial)) qQ rfl λcdv A outer s H E hr hc=> have hu:=hr.units;(zf (yY 2 qQ.nd (zjb T_RULES (by rfl) (zb 0) (λ_ _=>rfl))) (zf (z3L (zfE (n:=2) 2 (jB (Has.mono H_by_next (by decide)) (jB (Has.mono H_by_least (by decide)) (jB (Has.mono H_by_all (by decide)) (jB (Has.mono H_by_turn (by decide)) zbx)))) (hr.mono (by decide)) zx (aN (zb 1) ze) (he:=(zB ..))) (qb 3 4 hc qQ.nd)) (zj (ya (vZ (aN (zb 3) (aO (yr ["divided","lot","by","at"] [some 4,some 1,some 3,none] (by exact hc) (qG (by rfl) T.f11 (aQ (zG jS (by rfl) T.f7 vf (aN (zb 1) ze) (he:=(zB ..))) ze)) (λ_ _ _=>yb (i:=3) zkZ (by rfl) (by first | exact Or.inl rfl | exact Or.inr rfl)) (yt 3 (by rfl)) (λ_ _ _=>yV) (λ_ _ _=>(zja (zU zld (zb 3) (zb 0)) (zT zdH (z3F (zb 1) (zb 3)) (z3F (zb 1) (zb 2))) zr))) ze))))))))
theorem z58(F:Fun K "want_lot" "want_lot" qt f fd)(hm:mg "want_lot"=some (.ref f))(H_is_lot:Has P w K mg base CX0 "is_lot" 3 Pg.vz):Has P w K mg base CX0 "want_lot" 4 Pg.yD:= (zO F hm (F.binds (ps:=["thing"]) (by trivial)) z5s rfl λcdv A outer s H E hr hc=> have hu:=hr.units;(zj (z01 (kX (z0z (yA H_is_lot hr zx (aN (zb 0) ze)))) (zj z0k) yK)))
theorem z33 (F:Fun K "has_ended" "has_ended" ud f fd) (hm:mg "has_ended"=some (.ref f)) (H_want_lot:Has P w K mg base CX0 "want_lot" 4 Pg.yD):Has P w K mg base CX0 "has_ended" 5 Pg.zH:= (zO F hm (F.binds (ps:=["lot"]) (by trivial)) z4I rfl λcdv A outer s H E hr hc=> have hu:=hr.units;(zf (wF (yA H_want_lot hr zx (aN (zb 0) ze))) (zj (ya (z1L (zbI hu) (zG jS (by rfl) T.f7 vf (aO (yr ["number"] [none] (by exact hc) (uC (zb 0)) (λ_ _ _=>yb (i:=0) zku (by rfl) (by first | exact Or.inl rfl | exact Or.inr rfl)) (yt 0 (by rfl)) (λ_ _ _=>z2q (zU (z5t hu) (zb 0) zr)) (λ_ _ _=>(zb 0))) ze) (he:=(yn ..))) zr)))))
theorem uJ(F:Fun K "want_rule_and_lot" "want_rule_and_lot" yW f fd)(hm:mg "want_rule_and_lot"=some (.ref f))(H_want_rule:Has P w K mg base CX0 "want_rule" 2 Pg.zJ)(H_want_lot:Has P w K mg base CX0 "want_lot" 4 Pg.yD):Has P w K mg base CX0 "want_rule_and_lot" 5 Pg.zt:= (zO F hm (F.binds (ps:=["rule","lot"]) (by trivial)) uU rfl λcdv A outer s H E hr hc=> have hu:=hr.units;(zf (wF (yA H_want_rule hr zx (aN (zb 0) ze))) (zj (wF (yA H_want_lot hr zx (aN (zb 1) ze))))))
theorem z3B(F:Fun K "want_step" "want_step" uH f fd)(hm:mg "want_step"=some (.ref f))(H_has_ended:Has P w K mg base CX0 "has_ended" 5 Pg.zH)(H_want_rule_and_lot:Has P w K mg base CX0 "want_rule_and_lot" 5 Pg.zt):Has P w K mg base CX0 "want_step" 6 Pg.yi:= (zO F hm (F.binds (ps:=["rule","lot"]) (by trivial)) z4V rfl λcdv A outer s H E hr hc=> have hu:=hr.units;(zf (wF (yA H_want_rule_and_lot hr zx (aN (zb 0) (aN (zb 1) ze)))) (zj (z01 (z0z (yA H_has_ended hr zx (aN (zb 1) ze))) (zj z0k) yK))))
theorem zcT (F:Fun K "step" "step" z5A f fd) (hm:mg "step"=some (.ref f)) (H_moved:Has P w K mg base CX0 "moved" 1 Pg.xP) (H_division:Has P w K mg base CX0 "division" 3 Pg.yF) (H_want_step:Has P w K mg base CX0 "want_step" 6 Pg.yi):Has P w K mg base CX0 "step" 7 Pg.M_step:= (zO F hm (F.binds (ps:=["rule","lot"]) (by trivial)) z5H rfl λcdv A outer s H E hr hc=> have hu:=hr.units;(zf (wF (yA H_want_step hr zx (aN (zb 0) (aN (zb 1) ze)))) (zf (z3L (yA H_division hr zx (aN (zb 0) (aN (zb 1) ze))) (qb 2 3 hc z5H.nd)) (zf (yY 4 z5H.nd (qB kr (by rfl) T.f15 wL (aO (yr ["lot","by","number","quotient"] [some 1,some 2,none,none] (by exact hc) (zeg (by rfl) T.f16 (aN (zb 1) (aN (zb 3) ze))) (λ_ _ _=>jv 2 3 (by exact hc) zlb) (qW 2 3 (by decide) (by rfl) (by rfl)) (λ_ _ _=>yV) (λ_ _ _=>(zT z82 (zb 2) (zT kF (zb 3) (z3F (zb 0) (zb 1)))))) ze) (he:=(yn ..)))) (zj (ya (yA H_moved hr zx (aN (zb 0) (aN (zb 4) ze)))))))))
theorem z1f (F:Fun K "step_table" "step_table" vE f fd) (hm:mg "step_table"=some (.ref f)) (H_like_places:Has P w K mg base CX0 "like_places" 1 Pg.yU) (H_moved:Has P w K mg base CX0 "moved" 1 Pg.xP) (H_division:Has P w K mg base CX0 "division" 3 Pg.yF) (H_want_step:Has P w K mg base CX0 "want_step" 6 Pg.yi):Has P w K mg base CX0 "step_table" 7 Pg.yQ:= (zO F hm (F.binds (ps:=["rule","lot"]) (by trivial)) jj rfl λcdv A outer s H E hr hc=> have hu:=hr.units;(zf (wF (yA H_want_step hr zx (aN (zb 0) (aN (zb 1) ze)))) (zf (z3L (yA H_division hr zx (aN (zb 0) (aN (zb 1) ze))) (qb 2 3 hc jj.nd)) (zj (ya (qB kr (by rfl) T.f15 wL (aO (yr ["rule","by","line","quotient"] [some 0,some 2,none,none] (by exact hc) (zeg (by rfl) T.f16 (aQ (yA H_like_places hr zx (aQ (zG jS (by rfl) T.f7 vf (aN (zb 1) ze) (he:=(zB ..))) ze) (he:=(wn ..))) (aN (zb 3) ze))) (λ_ _ _=>jv 2 3 (by exact hc) ziX) (qW 2 3 (by decide) (by rfl) (by rfl)) (λ_ _ _=>yV) (λ_ _ _=>(yA H_moved hr zx (aN (zb 0) (aB (zT wb (zT wb (wX (zb 2) qg (qo (zb 1))) (vZ (aB (zT wb (z3F (zb 2) (zb 1)) (zb 3)) ze))) (wX (zb 2) (qo (zT wb (zb 1) zr)) qg)) ze))))) ze) (he:=(yn ..))))))))
theorem zek (F:Fun K "run" "run" zau f fd) (hm:mg "run"=some (.ref f)) (H_has_ended:Has P w K mg base CX0 "has_ended" 5 Pg.zH) (H_want_rule_and_lot:Has P w K mg base CX0 "want_rule_and_lot" 5 Pg.zt) (H_step:Has P w K mg base CX0 "step" 7 Pg.M_step):Has P w K mg base CX0 "run" 8 Pg.M_run:= (zO F hm (F.binds (ps:=["rule","lot"]) (by trivial)) zdb rfl λcdv A outer s H E hr hc=> have hu:=hr.units;(zf (wF (yA H_want_rule_and_lot hr zx (aN (zb 0) (aN (zb 1) ze)))) (zf (yY 2 zdb.nd (zaM (aN (zb 1) ze))) (zf (z9E _aH (kX (z0z (yA H_has_ended hr zx (aS (z3F (zb 2) (z5I zr)) ze) (he:=(z2X ..))))) (zj (wF (z3n (zb 2) (yA H_step hr zx (aN (zb 0) (aS (z3F (zb 2) (z5I zr)) ze))))))) (zj (ya (zb 2)))))))
theorem kW (F:Fun K "steps_of_all" "steps_of_all" wB f fd) (hm:mg "steps_of_all"=some (.ref f)) (H_tuples_between:Has P w K mg base CX0 "tuples_between" 1 Pg.zR) (H_has_ended:Has P w K mg base CX0 "has_ended" 5 Pg.zH) (H_step:Has P w K mg base CX0 "step" 7 Pg.M_step):Has P w K mg base CX0 "steps_of_all" 8 Pg.yh:= (zO F hm (F.binds (ps:=["rule","size","most"]) (by trivial)) zZ rfl λcdv A outer s H E hr hc=> have hu:=hr.units;(zf (yY 3 zZ.nd zhO) (zf (z4E _aH hc (uC (wX (yA H_tuples_between hr zx (aN (zb 1) (aK zr (aN (zb 2) ze)))) (qo zr) qg)) (z29 4 zZ.nd) (zf (yY 5 zZ.nd (zaM (aN (zb 4) ze))) (zf (z9E _aH (RW.rt (w_and (zU (zca hu) (z3F (zb 5) (z5I zr)) (zb 3)) (z9J (kX (z0z (yA H_has_ended hr zx (aS (z3F (zb 5) (z5I zr)) ze) (he:=(z2X ..)))))))) (zj (wF (z3n (zb 5) (yA H_step hr zx (aN (zb 0) (aS (z3F (zb 5) (z5I zr)) ze))))))) (zf (yY 6 zZ.nd (zeL hu (zb 3) (z3F (zb 5) (z5I zr)) zr)) (zj (z4E _aH hc (uC (za2 (zb 5))) (z29 7 zZ.nd) (zf (zgP hu (zb 6) (zb 3) (zb 7)) (zj (zi1 6 zZ.nd zr))))))))) (zj (ya (zb 3))))))
theorem z38(F:Fun K "tables_of" "tables_of" uj f fd)(hm:mg "tables_of"=some (.ref f))(H_step_table:Has P w K mg base CX0 "step_table" 7 Pg.yQ)(H_run:Has P w K mg base CX0 "run" 8 Pg.M_run):Has P w K mg base CX0 "tables_of" 9 Pg.xE:= (zO F hm (F.binds (ps:=["rule","lot"]) (by trivial)) z3M rfl λcdv A outer s H E hr hc=> have hu:=hr.units;(zj (ya (yr ["rule","ahead"] [some 0,none] (by exact hc) (uC (wX (z10 (yA H_run hr zx (aN (zb 0) (aN (zb 1) ze)))) qg (qo (z5I zr)))) (λ_ _ _=>yb (i:=1) zlf (by rfl) (by first | exact Or.inl rfl | exact Or.inr rfl)) (yt 1 (by rfl)) (λ_ _ _=>yV) (λ_ _ _=>(yA H_step_table hr zx (aN (zb 0) (aN (zb 1) ze))))))))
theorem z1y (F:Fun K "many_steps" "many_steps" vH f fd) (hm:mg "many_steps"=some (.ref f)) (H_run:Has P w K mg base CX0 "run" 8 Pg.M_run):Has P w K mg base CX0 "many_steps" 9 Pg.zD:= (zO F hm (F.binds (ps:=["rule","lot"]) (by trivial)) z2M rfl λcdv A outer s H E hr hc=> have hu:=hr.units;(zj (ya (zT z82 (zG jS (by rfl) T.f7 vf (aQ (z10 (yA H_run hr zx (aN (zb 0) (aN (zb 1) ze)))) ze) (he:=(wn ..))) zr))))
theorem z1v (F:Fun K "common_end" "common_end" vC f fd) (hm:mg "common_end"=some (.ref f)) (H_want_rule:Has P w K mg base CX0 "want_rule" 2 Pg.zJ) (H_run:Has P w K mg base CX0 "run" 8 Pg.M_run):Has P w K mg base CX0 "common_end" 9 Pg.yo:= (zO F hm (F.binds (ps:=["one","other","lot"]) (by trivial)) wa rfl λcdv A outer s H E hr hc=> have hu:=hr.units;(zf (wF (yA H_want_rule hr zx (aN (zb 0) ze))) (zf (wF (yA H_want_rule hr zx (aN (zb 1) ze))) (zf (yY 3 wa.nd zr) (zf (z4E _aH hc (zeg (by rfl) T.f16 (aS (za2 (z10 (yA H_run hr zx (aN (zb 0) (aN (zb 2) ze))))) (aS (za2 (z10 (yA H_run hr zx (aN (zb 1) (aN (zb 2) ze))))) ze))) (qb 4 5 hc wa.nd) (zf (z01 (zU (z5t hu) (zG z2i (by rfl) T.f13 xp (aN (zb 4) ze) (he:=(zB ..))) (zG z2i (by rfl) T.f13 xp (aN (zb 5) ze) (he:=(zB ..)))) (zj zff) yK) (zj (zi1 3 wa.nd zr)))) (zj (ya (zb 3))))))))
theorem z1x (F:Fun K "most_steps" "most_steps" vJ f fd) (hm:mg "most_steps"=some (.ref f)) (H_want_number:Has P w K mg base CX0 "want_number" 2 Pg.yS) (H_want_size:Has P w K mg base CX0 "want_size" 2 Pg.xG) (H_want_rule:Has P w K mg base CX0 "want_rule" 2 Pg.zJ) (H_steps_of_all:Has P w K mg base CX0 "steps_of_all" 8 Pg.yh):Has P w K mg base CX0 "most_steps" 9 Pg.xo:= (zO F hm (F.binds (ps:=["rule","size","number"]) (by trivial)) vL rfl λcdv A outer s H E hr hc=> have hu:=hr.units;(zf (wF (yA H_want_rule hr zx (aN (zb 0) ze))) (zf (wF (yA H_want_size hr zx (aN (zb 1) (aN (ziy (by rfl) T.f2) ze)))) (zf (wF (yA H_want_number hr zx (aN (zb 2) (aK zr (aN (ziy (by rfl) T.f1) ze))))) (zf (yY 3 vL.nd (yA H_steps_of_all hr zx (aN (zb 0) (aN (zb 1) (aN (zb 2) ze))))) (zf (yY 4 vL.nd (zi5 (by exact hc) (by rfl) T.f9 jc (zb 3))) (zj (ya (vZ (aN (zb 4) (aQ (zG zbu (by rfl) T.f13 xp (aO (yr ["most","steps","lot"] [some 4,some 3,none] (by exact hc) (zj9 (zb 3)) (λ_ _ _=>yb (i:=2) zka (by rfl) (by first | exact Or.inl rfl | exact Or.inr rfl)) (yt 2 (by rfl)) (λ_ _ _=>z2q (zU (zbI hu) (zhI hu (zb 1) (zb 2)) (zb 0))) (λ_ _ _=>(zb 2))) ze) (he:=(yn ..))) ze)))))))))))
theorem z43 (F:Fun K "by_steps" "by_steps" qA f fd) (hm:mg "by_steps"=some (.ref f)) (O_RULES:z7N P w K mg "RULES" (xg.map Prod.fst)) (H_many_steps:Has P w K mg base CX0 "many_steps" 9 Pg.zD):Has P w K mg base CX0 "by_steps" 10 Pg.wf:= (zO F hm (F.binds (ps:=["lot"]) (by trivial)) z0Z rfl λcdv A outer s H E hr hc=> have hu:=hr.units;(zf (yY 1 z0Z.nd (zG zaY (by rfl) T.f13 xp (aO (yr ["lot","rule"] [some 0,none] (by exact hc) (zgY O_RULES (by rfl)) (λ_ _ _=>yb (i:=1) zjt (by rfl) (by first | exact Or.inl rfl | exact Or.inr rfl)) (yt 1 (by rfl)) (λ_ _ _=>yV) (λ_ _ _=>(vZ (aQ (yA H_many_steps hr zx (aN (zb 1) (aN (zb 0) ze))) (aN (zb 1) ze))))) ze) (he:=(yn ..)))) (zj (ya (yr ["steps","rule"] [none,none] (by exact hc) (uC (zb 1)) (λ_ _ _=>jv 0 1 (by exact hc) zkp) (qW 0 1 (by decide) (by rfl) (by rfl)) (λ_ _ _=>yV) (λ_ _ _=>(vZ (aN (zb 1) (aN (zb 0) ze)))))))))
theorem z7F (F:Fun K "law" "law" z1F f fd) (hm:mg "law"=some (.ref f)) (H__law_cell_at:Has P w K mg base CX0 "_law_cell_at" 1 Pg.yC) (H__law_pot:Has P w K mg base CX0 "_law_pot" 1 Pg.we) (H__law_take:Has P w K mg base CX0 "_law_take" 1 Pg.zh) (H__law_rules:Has P w K mg base CX0 "_law_rules" 1 Pg.yp) (H__law_lot:Has P w K mg base CX0 "_law_lot" 2 Pg.vi) (H_has_ended:Has P w K mg base CX0 "has_ended" 5 Pg.zH) (H_step:Has P w K mg base CX0 "step" 7 Pg.M_step) (H_run:Has P w K mg base CX0 "run" 8 Pg.M_run) (H_tables_of:Has P w K mg base CX0 "tables_of" 9 Pg.xE) (H_many_steps:Has P w K mg base CX0 "many_steps" 9 Pg.zD) (H_common_end:Has P w K mg base CX0 "common_end" 9 Pg.yo) (H_most_steps:Has P w K mg base CX0 "most_steps" 9 Pg.xo) (H_by_steps:Has P w K mg base CX0 "by_steps" 10 Pg.wf):z2R P w K mg base CX0 11 f fd ["_law_script"] (zet ⟨mg,K⟩ zfB):= zh8 F wC rfl λcdv A outer s H E hr hc=>by
  have hu:=hr.units;refine zf ?_ ?_
  ·refine z4E _aH hc (qG (by rfl) T.f11 (aQ (zG (ziD (by exact hc)) (by rfl) T.f9 jc (aK zr (aQ (zG (zhN (by exact hc)) (by rfl) T.f10 zar (aQ (zG jS (by rfl) T.f7 vf (aN (zb 0) ze) (he:=(zB ..))) (aK zr ze)) (he:=(wn ..))) ze)) (he:=(z23 ..))) ze)) (z29 1 wC.nd) ?_;refine zf ?_ ?_;·exact (yY 2 wC.nd (yA H__law_pot hr zx (aQ (yA H__law_cell_at hr zx (aN (zb 0) (aN (zb 1) ze))) ze) (he:=(wn ..))))
   refine zf ?_ ?_;·exact (yY 3 wC.nd (yA H__law_lot hr zx (aN (zb 2) ze)))
   refine zf ?_ ?_;·exact (yY 4 wC.nd (yA H_by_steps hr zx (aN (zb 3) ze)))
   refine zf ?_ ?_;·exact (zeF 5 ["_law_rule","_law_steps"] [none,none] wC.nd hc (uC (zb 4)) (λ_ _ _=>jv 0 1 (by exact hc) zkH) (qW 0 1 (by decide) (by rfl) (by rfl)) (λ_ _ _=>yV) (λ_ _ _=>(vZ (aN (zb 1) (aN (zb 0) ze)))))
   refine zf ?_ ?_
   ·refine z01 (RW.rt (zcQ (zU (z5t hu) (zG zep (by rfl) T.f13 xp (aO (yr ["_law_rule","_law_steps"] [none,none] (by exact hc) (uC (zb 4)) (λ_ _ _=>jv 0 1 (by exact hc) zkH) (qW 0 1 (by decide) (by rfl) (by rfl)) (λ_ _ _=>yV) (λ_ _ _=>(zb 0))) ze) (he:=(yn ..))) (z5S H__law_rules (hr.mono (by decide)) zx (by rfl))) (z2Y (zU (z5t hu) (zb 5) (zG zaY (by rfl) T.f13 xp (aN (zb 5) ze) (he:=(zB ..))))))) ?_ ?_
    ·refine zj ?_;exact (ya z8v)
    ·exact yK
   refine zf ?_ ?_
   ·refine z4E _aH hc (uC (zb 4)) (qb 6 7 hc wC.nd) ?_;refine zf ?_ ?_
    ·refine z01 (RW.rt (zcQ (zU (z5t hu) (zb 7) (yA H_many_steps hr zx (aN (zb 6) (aN (zb 3) ze)))) (z2Y (zU (z5t hu) (zb 7) (zG jS (by rfl) T.f7 vf (aQ (yA H_tables_of hr zx (aN (zb 6) (aN (zb 3) ze))) ze) (he:=(wn ..))))))) ?_ ?_
     ·refine zj ?_;exact (ya z8v)
     ·exact yK
    refine zf ?_ ?_
    ·refine z01 (zU (z5t hu) (zT wb (zb 7) zr) (zG jS (by rfl) T.f7 vf (aQ (z10 (yA H_run hr zx (aN (zb 6) (aN (zb 3) ze)))) ze) (he:=(wn ..)))) ?_ ?_
     ·refine zj ?_;exact (ya z8v)
     ·exact yK
    refine zf ?_ ?_
    ·refine z01 (RW.rt (w_and (kX (z0z (yA H_has_ended hr zx (aN (zb 3) ze)))) (z9J (zU (z5t hu) (yA H_many_steps hr zx (aN (zb 6) (aQ (yA H_step hr zx (aN (zb 6) (aN (zb 3) ze))) ze))) (zT z82 (zb 7) zr))))) ?_ ?_
     ·refine zj ?_;exact (ya z8v)
     ·exact yK
    refine zj ?_;refine z01 (zU (z5t hu) (yA H_common_end hr zx (aN (zb 6) (aN (zb 6) (aN (zb 3) ze)))) (zT wb (zb 7) zr)) ?_ ?_
    ·refine zj ?_;exact (ya z8v)
    ·exact yK
   refine zf ?_ ?_;·exact (z3L (vZ (aS (z3F (z5S H__law_rules (hr.mono (by decide)) zx (by rfl)) (yA H__law_take hr zx (aN (zb 2) (aK zr ze)))) (aS (z3F (z5S H__law_rules (hr.mono (by decide)) zx (by rfl)) (yA H__law_take hr zx (aN (zb 2) (aK zr ze)))) ze))) (qb 8 9 hc wC.nd))
   refine zf ?_ ?_;·exact (yY 10 wC.nd (yA H_common_end hr zx (aN (zb 8) (aN (zb 9) (aN (zb 3) ze)))))
   refine zf ?_ ?_
   ·refine z01 (RW.rt (zcQ (zU (z5t hu) (zb 10) (yA H_common_end hr zx (aN (zb 9) (aN (zb 8) (aN (zb 3) ze))))) (z2Y (zU zkN (zb 10) zr)))) ?_ ?_
    ·refine zj ?_;exact (ya z8v)
    ·exact yK
   refine zf ?_ ?_;·exact (zke 11 12 hc wC.nd (aS (wX (z10 (yA H_run hr zx (aN (zb 8) (aN (zb 3) ze)))) (qo (zT z82 zr (zb 10))) qg) (aS (wX (z10 (yA H_run hr zx (aN (zb 9) (aN (zb 3) ze)))) (qo (zT z82 zr (zb 10))) qg) ze)))
   refine zf ?_ ?_
   ·refine z01 (zU (z5t hu) (yr ["_law_here"] [none] (by exact hc) (uC (zb 11)) (λ_ _ _=>yb (i:=0) zkt (by rfl) (by first | exact Or.inl rfl | exact Or.inr rfl)) (yt 0 (by rfl)) (λ_ _ _=>yV) (λ_ _ _=>(zG z2i (by rfl) T.f13 xp (aN (zb 0) ze) (he:=(zB ..))))) (yr ["_law_here"] [none] (by exact hc) (uC (zb 12)) (λ_ _ _=>yb (i:=0) zkt (by rfl) (by first | exact Or.inl rfl | exact Or.inr rfl)) (yt 0 (by rfl)) (λ_ _ _=>yV) (λ_ _ _=>(zG z2i (by rfl) T.f13 xp (aN (zb 0) ze) (he:=(zB ..)))))) ?_ ?_
    ·refine zj ?_;exact (ya z8v)
    ·exact yK
   refine zf ?_ ?_;·exact (z3L (vZ (aB (zT wb zr (yA H__law_take hr zx (aN (zb 2) (aK zr ze)))) (aB (zT wb zr (yA H__law_take hr zx (aN (zb 2) (aK zr ze)))) ze))) (qb 13 14 hc wC.nd))
   refine zf ?_ ?_;·exact (z3L (yA H_most_steps hr zx (aN (zb 8) (aN (zb 13) (aN (zb 14) ze)))) (qb 15 16 hc wC.nd))
   refine zf ?_ ?_;·exact (yY 17 wC.nd (qB kr (by rfl) T.f15 wL (aO (yr ["_law_pot_here","_law_number","_law_place"] [some 2,some 14,none] (by exact hc) (qG (by rfl) T.f11 (aN (zb 13) ze)) (λ_ _ _=>yb (i:=2) zle (by rfl) (by first | exact Or.inl rfl | exact Or.inr rfl)) (yt 2 (by rfl)) (λ_ _ _=>yV) (λ_ _ _=>(yA H__law_take hr zx (aN (zb 0) (aB (zT wb (zb 1) zr) ze))))) ze) (he:=(yn ..))))
   refine zf ?_ ?_
   ·refine z01 (RW.rt (zcQ (zU (zhQ hu) (yr ["_law_one","_law_here"] [some 8,none] (by exact hc) (uC (zb 16)) (λ_ _ _=>yb (i:=1) zlu (by rfl) (by first | exact Or.inl rfl | exact Or.inr rfl)) (yt 1 (by rfl)) (λ_ _ _=>yV) (λ_ _ _=>(yA H_many_steps hr zx (aN (zb 0) (aN (zb 1) ze))))) (zT zjY (z5G (aN (zb 15) ze)) (zG jS (by rfl) T.f7 vf (aN (zb 16) ze) (he:=(zB ..))))) (z2Y (zU (zhQ hu) (zb 16) (zlj (by exact hc) hu (zb 16) (by rfl) T.f13 xp (by rfl) T.f12 zht))))) ?_ ?_
    ·refine zj ?_;exact (ya z8v)
    ·exact yK
   refine zf ?_ ?_;·exact (yY 7 wC.nd zr)
   refine zf ?_ ?_
   ·refine z01 (zU ziO (zG (z0v (by exact hc)) (by rfl) T.f9 jc (aN (zb 17) ze) (he:=(zB ..))) zr) ?_ ?_
    ·refine zj ?_;exact (yY 7 wC.nd (yA H_many_steps hr zx (aN (zb 8) (aN (zb 17) ze))))
    ·exact yK
   refine zj ?_;refine z01 (RW.rt (zcQ (zU ziO (zb 7) (zb 15)) (z2Y (RW.rt (w_and (zU ziO (zG (z0v (by exact hc)) (by rfl) T.f9 jc (aN (zb 17) ze) (he:=(zB ..))) zr) (z9J (zU (z5t hu) (z1L (zbI hu) (zb 7) (zb 15)) (z1L (zjz hu) (zb 17) (zb 16))))))))) ?_ ?_
   ·refine zj ?_;exact (ya z8v)
   ·exact yK
  refine zj ?_;exact (ya z8v)
end
end K33
namespace Pr
open L2 Dd Pm Pg Pn Po
theorem z2t:∀(F:List (List Int)),D.flat.flats (F.map rD)=true
 | []=>rfl | r::T=>by
  have:=z2t T;simp[D.flat.flats,D.flat,this,wm]
end Pr
namespace Pt
open L2 Dd Pm Pg Pn Po Pr
def cnt(r:Rl):Nat->List Int->Nat
 | 0,_=>0 | f+1,v=>if ended v=true then 0 else cnt r f (stp r v)+1
def nst(r:Rl)(v:List Int):Nat:=cnt r (mu r v) v
theorem z5v{n:Nat}{r:Rl}:∀(f g:Nat)(v:List Int),Lot n v->mu r v<=f->mu r v<=g->cnt r f v=cnt r g v
 | 0,0,_,_,_,_=>rfl | 0,g+1,v,h,hf,hg=>by
  rw[cnt,cnt];by_cases e:ended v=true;·rw[_f e]
  ·have:=z2w r h (by simpa using e);omega | f+1,0,v,h,hf,hg=>by
  rw[cnt,cnt];by_cases e:ended v=true;·rw[_f e]
  ·have:=z2w r h (by simpa using e);omega | f+1,g+1,v,h,hf,hg=>by
  rw[cnt,cnt];by_cases e:ended v=true;·rw[_f e,_f e]
  ·have:=z2w r h (by simpa using e);rw[_i e,_i e,z5v f g (stp r v) (h.step r (by simpa using e)) (by omega) (by omega)]
theorem z8D{r:Rl}{v:List Int}(e:ended v=true):nst r v=0:=by
 unfold nst;cases mu r v with
 | zero=>rfl | succ k=>rw[cnt,_f e]
theorem z2b{n:Nat}{r:Rl}{v:List Int}(h:Lot n v)(e:ended v=false):nst r v=nst r (stp r v)+1:=by
 have m:=z2w r h e;have e1:nst r v=cnt r (mu r v+1) v:=z5v _ _ v h (_h _) (by omega);rw[e1,cnt,_i (by simp[e]),z5v (mu r v) (mu r (stp r v)) _ (h.step r e) (by omega) (_h _)];rfl
def K(v:List Int):List Key:=v.map Sum.inl
theorem zfd:∀{v w:List Int},K v=K w->v=w
 | [],[],_=>rfl | [],_::_,h=>by simp[K]at h | _::_,[],h=>by simp[K]at h | x::v,y::w,h=>by
  simp only[K,_j,_bi,Sum.inl.injEq]at h;rw[h.1,zfd (v:=v) (w:=w) h.2]
theorem z05:∀v:List Int,jO (iL v)=some (K v)
 | []=>rfl | x::v=>by
  have:=z05 v;simp only[iL,K]at this;simp[jO,this,K]
theorem zcM(v:List Int):D.tup ((K v).map z4W)=rD v:=by
 unfold K;rw[_ai];rfl
abbrev Kv:=List (List Key×V)
structure Lt(n b:Nat)(v:List Int):Prop where
 lot:Lot n v
 le:∀x∈v,x<=(b:Int)
theorem Lt.step{n b:Nat}{v:List Int}(h:Lt n b v)(r:Rl)(e:ended v=false):Lt n b (stp r v):=⟨h.lot.step r e,ze2 r h.lot e h.le⟩
theorem Lt.B{n b:Nat}{v:List Int}(h:Lt n b v)(hb:b<=900):LotB n 10 v:=⟨h.lot,λx hx=>by
 have:=h.le x hx;have e:(2:Int) ^ 10=1024:=by decide
 omega⟩
structure Dk(n b:Nat)(d:Kv):Prop where
 nd:(d.map (·.1)).Nodup
 key:∀p∈d,∃v,Lt n b v/\p.1=K v/\∃z:Nat,p.2=.int ((z:Nat):Int)
def Ok(r:Rl)(d:Kv):Prop:=∀p∈d,∀v,p.1=K v->p.2=.int (nst r v)
theorem Dk.all{n b:Nat}{d:Kv}(h:Dk n b d):zaU d:=λp hp=>by
 obtain⟨v,_,_,z,e⟩:=h.key p hp;rw[e];rfl
theorem z2n{d:Kv}{k:List Key}{u:V}(h:xU d k=some u):(k,u)∈d:=by
 unfold xU at h;obtain⟨p,hp,rfl⟩:=_x.mp h;have e:p.1=k:=by simpa using List.find?_some hp
 rw[<- e];exact List.mem_of_find?_eq_some hp
theorem zax{d:Kv}{p:List Key×V}(h:p∈d):∃u,xU d p.1=some u:=by
 have:(d.any λkv=>decide (kv.1=p.1))=true:=_dJ.mpr ⟨p,h,by simp⟩;rw[uM]at this;exact _am.mp this
theorem z7m{d:Kv}{k:List Key}{u:V}{p:List Key×V}(h:p∈uV d k u):p=(k,u)\/(p∈d/\p.1≠k):=by
 unfold uV at h;split at h
 ·obtain⟨q,hq,rfl⟩:=_A.mp h;by_cases e:q.1=k;·rw[_f e,e];exact .inl rfl
  ·rw[_i e];exact .inr ⟨hq,e⟩
 ·rename_i q;rcases _M.mp h with h | h
  ·refine .inr ⟨h,λe=>q ?_⟩;exact _dJ.mpr ⟨p,h,by simpa using e⟩
  ·exact .inl (by simpa using h)
theorem z4p{d:Kv}{k:List Key}{u:V}:(uV d k u).map (·.1)=if (d.any λkv=>decide (kv.1=k))=true then d.map (·.1) else d.map (·.1)++[k]:=by
 unfold uV;split
 ·rw[_ai];refine _ay λp hp=>?_;simp only[Function.comp];split;·rfl
  ·rfl
 ·simp
theorem Dk.put{n b:Nat}{d:Kv}(h:Dk n b d){v:List Int}(hv:Lt n b v)(z:Nat):Dk n b (uV d (K v) (.int z)):=by
 refine⟨?_,λp hp=>?_⟩
 ·rw[z4p];split;·exact h.nd
  ·rename_i q;rw[_dh];refine⟨h.nd,by simp,λa ha c hc e=>q ?_⟩;have hc:c=K v:=by simpa using hc
   obtain⟨p,hp,rfl⟩:=_A.mp ha;exact _dJ.mpr ⟨p,hp,by simpa using e.trans hc⟩
 ·rcases z7m hp with rfl | ⟨hp,_⟩;·exact⟨v,hv,rfl,z,rfl⟩
  ·exact h.key p hp
theorem Ok.put{r:Rl}{d:Kv}(h:Ok r d){v:List Int}:Ok r (uV d (K v) (.int (nst r v))):=λp hp w e=>by
 rcases z7m hp with rfl | ⟨hp,_⟩;·rw[zfd e]
 ·exact h p hp w e
theorem Ok.val{r:Rl}{d:Kv}(h:Ok r d){v:List Int}{u:V}(e:xU d (K v)=some u):u=.int (nst r v):=h _ (z2n e) v rfl
theorem len_sub {α:Type}:∀{l m:List α},l.Nodup->(∀x∈l,x∈m)->l.length<=m.length
 | [],m,_,_=>_Y _ | a::l,m,nd,h=>by
  obtain⟨h1,h2⟩:=_bS.mp nd;obtain⟨p,q,rfl⟩:=List.append_of_mem (h a (.head _));have:=len_sub (l:=l) (m:=p++q) h2 λx hx=>by
   have z:=h x (.tail _ hx);have ne:x≠a:=λe=>h1 (e ▸ hx);rcases _M.mp z with z | z;·exact _aK _ z
   ·rcases _p.mp z with z | z;·exact absurd z ne
    ·exact _B _ z
  simp only[_al,_n]at this ⊢;omega
def z5i(m:Nat):List Int:=(List.range (m+1)).map λk:Nat=>((k:Nat):Int)
theorem z6z{m:Nat}{x:Int}:x∈z5i m ↔ 0<=x/\x<=m:=by
 unfold z5i;rw[_A];constructor
 ·rintro⟨k,hk,rfl⟩;rw[_Q]at hk;omega
 ·rintro⟨h0,h1⟩;exact⟨x.toNat,by rw[_Q];omega,by omega⟩
theorem zfs(m:Nat):(z5i m).Pairwise (· < ·):=by
 unfold z5i;rw[_aZ];exact _ce.imp λ{a b} h=>by omega
def qV(n m:Nat):List (List Int):=uE (List.replicate n (z5i m))
theorem z5b(n m:Nat):qV (n+1) m=zbB (qV n m) (z5i m):=by
 unfold qV;rw[List.replicate_succ',uO]
theorem z6E {n m:Nat}:(qV n m).length<=(m+1) ^ n:=by
 have:=zaX (List.replicate n (z5i m)) (k:=m+1) λc hc=>by rw[_aF hc];simp[z5i]
 simpa[qV] using this
theorem z5T(n m:Nat):Up (qV n m):=zbM _ λc hc=>by rw[_aF hc];exact zfs m
theorem z08{n m:Nat}{v:List Int}:v∈qV n m ↔ v.length=n/\∀x∈v,0<=x/\x<=m:=by
 unfold qV;rw[z4m,_cg];constructor
 ·rintro⟨h1,h2⟩;refine⟨h1,λx hx=>?_⟩;obtain⟨i,hi,rfl⟩:=_z.mp hx;have:=h2 i (by omega);rw[show v.getD i 0=v[i] by simp[_k,hi],show (List.replicate n (z5i m)).getD i []=z5i m by simp[_k,show i<n by omega]]at this;exact z6z.mp this
 ·rintro⟨h1,h2⟩;refine⟨h1,λi hi=>?_⟩;rw[show (List.replicate n (z5i m)).getD i []=z5i m by simp[_k,hi]];exact z6z.mpr (h2 _ (Pm.getD_mem (by omega)))
theorem z4U(m:Nat):∀n,∃t,qV n m=List.replicate n 0::t
 | 0=>⟨[],rfl⟩ | n+1=>by
  obtain⟨t,e⟩:=z4U m n;rw[z5b,e,zbB,List.flatMap_cons];have:z5i m=0::(z5i m).tail:=by unfold z5i;rw[List.range_succ_eq_map];rfl
  rw[this,_j,_bo,List.replicate_succ'];exact⟨_,rfl⟩
def every(n m:Nat):List (List Int):=(qV n m).drop 1
theorem vj{n m:Nat}(hn:Sz n){v:List Int}:v∈every n m ↔ Lt n m v:=by
 obtain⟨t,e⟩:=z4U m n;have up:=(_bb.mp (e ▸ z5T n m)).1;have et:every n m=t:=by unfold every;rw[e];rfl
 rw[et];constructor
 ·intro h;have h1:v∈qV n m:=by rw[e];exact .tail _ h
  obtain⟨l,b⟩:=z08.mp h1;refine⟨⟨hn,l,λx hx=>(b x hx).1,?_⟩,λx hx=>(b x hx).2⟩;refine _O λz=>?_;have ez:v=List.replicate n 0:=by
   rw[List.eq_replicate_iff];refine⟨l,λx hx=>?_⟩;have:=(b x hx).1;refine _O λq=>z ⟨x,hx,by omega⟩
  have:=up v h;rw[ez,z02]at this;cases this
 ·rintro⟨h,b⟩;have h1:v∈qV n m:=z08.mpr ⟨h.len,λx hx=>⟨h.nn x hx,b x hx⟩⟩;rw[e]at h1;rcases _p.mp h1 with z | z
  ·obtain⟨x,hx,p⟩:=h.pos;rw[z]at hx;rw[_aF hx]at p;omega
  ·exact z
theorem Dk.len {n b:Nat} {d:Kv} (h:Dk n b d) (hn:Sz n):d.length<=(b+1) ^ n:=by
 have h1:=len_sub (l:=d.map (·.1)) (m:=(qV n b).map K) h.nd λk hk=>by
  obtain⟨p,hp,rfl⟩:=_A.mp hk;obtain⟨v,hv,e,_⟩:=h.key p hp;rw[e];exact List.mem_map_of_mem (z08.mpr ⟨hv.lot.len,λx hx=>⟨hv.lot.nn x hx,hv.le x hx⟩⟩)
 simp only[_w]at h1;exact _ad h1 z6E
theorem zdR{n b:Nat}{d:Kv}(h:Dk n b d){s:Sto}{l:Nat}(e:s[l]? = some (encD d))(v:List Int):ui s (.dlo l) (rD v)=some (xU d (K v)):=by simp only[ui,e,_J,z2m h.all,z05]
theorem zii{n b:Nat}{d:Kv}(h:Dk n b d){s:Sto}{l:Nat}(e:s[l]? = some (.non::encD d))(v:List Int):ui s (.dlo l) (rD v)=some (xU d (K v)):=by
 have:zbk (.non::encD d)=some d:=dec_enc h.all;simp only[ui,e,_J,this,z05]
theorem zeN{n b:Nat}{d:Kv}(h:Dk n b d){fo fk fv:FE}{ρ:Ev}{s s1:Sto}{l:Nat}{v:List Int}{z:Nat}(hv:fv ρ s=.ok (.int z) s1)(ho:fo ρ s1=.ok (.dlo l) s1)(hk:fk ρ s1=.ok (rD v) s1)(e:s1[l]? = some (encD d))(hl:d.length<cap): zaO fo fk fv ρ s=.ok (.nx ρ) (s1.set l (encD (uV d (K v) (.int z)))):=by simp only[zaO,hv,ho,hk,Rb,vV,e,_J,dec_enc h.all,z05,_f hl]
end Pt
namespace Pp
open L2 Dd
open Pm Pg
theorem zeJ(s:Sto)(a b:List D):(s++[a]).set s.length b=s++[b]:=by rw[_bD _ _ (by omega)];simp
open Pn
theorem z86{x a b:Int}(h1:a<=x)(h2:x<=b)(s:Sto):yS [.int x,.int a,.int b] s=.ok .non s:=by
 have w:yc [.int x] s=.ok (.bl true) s:=z6o (by rfl) s;have st:zE ["thing","least","most"] [.int x,.int a,.int b]=[some (.int x),some (.int a),some (.int b)]:=rfl;simp only[yS,Mof,qp,st,_n,_F,_N];rw[uf,z81];·rfl
 ·refine z6e (zhS (wA ?_)) (zhS (wA ?_));·rw[wx (x:=.int x) (by simp)];exact w
  ·simp[h1,h2]
end Pp
namespace Pt
open L2 Dd Pm Pg Pn Po Pr Pp
theorem zc0 {n m:Nat} (hn:n<=4) (hm:m<=30) (hs:(m+1) ^ n<=90000) (s:Sto):zR [.int n,.int 0,.int m] s=.ok (.lst ((qV n m).map rD)) s:=by
 have f1:yL [some (.int n),some (.int 0),some (.int m),none,none] s=.ok (.nx [some (.int n),some (.int 0),some (.int m),some (.lst ((qV 0 m).map rD)),none]) s:=by
  rw[yL,yw,z4s,zo,vP,zI];simp[cap,qV,uE]
 obtain⟨ρ',S',lp,a4,hρ,rfl⟩:=jK (all:=(List.range n).map λk:Nat=>D.int ((k:Nat):Int)) (body:=λx ρ s=>(wH 4 x ρ s).bind fun ρ' s'=>yM ρ' s') (λi ρ S'=>∃a4,ρ=[some (.int n),some (.int 0),some (.int m),some (.lst ((qV i m).map rD)),a4]/\S'=s) ((List.range n).map λk:Nat=>D.int ((k:Nat):Int)) 0 (by
   intro i x hx ρ S' ⟨a4,hρ,hS⟩;subst hρ hS;rw[_av];have hi:i<n:=by have:=(_d.mp hx).1;simpa using this
   have eg:((qV i m).flatMap λa=>(List.range (m+1)).map λk=>rD (a++[((k:Nat):Int)]))=(qV (i+1) m).map rD:=by
    rw[z5b,zbB,List.map_flatMap,z5i];simp[_a0]
   have c:=zan (fi:=yG (zc 3)) (mp:=[some 1,some 2,none,none]) (k1:=2) (k2:=3) (fi2:=z9f (za (zc 0) (za (eOp wP (zc 1) (eC (.int 1))) zi))) (fe:=eOp wP (zc 2) (kC (za (zc 3) zi))) (ρ:=[some (.int n),some (.int 0),some (.int m),some (.lst ((qV i m).map rD)),some x]) (s:=S') rD (λ_ (k:Nat)=>D.int ((k:Nat):Int)) (qV i m) (λ_=>List.range (m+1)) (λa k=>rD (a++[((k:Nat):Int)])) (xc (vr rfl)) (λa _=>by
     rw[zf1,zo,vr (d:=.int 0) rfl,Rb,zo,op2 (x:=.int m) (y:=.int 1) (vr rfl) rfl,jf,Rb,zI];simp only[Rb];rw[_f (by omega),show ((m:Int)+1-0).toNat=m+1 by omega];simp[qH]) (λa ha k _=>by
     have la:=(z08.mp ha).1;rw[op2 (x:=rD a) (y:=rD [(k:Int)]) (vr rfl) (by
      rw[vP,zo,vr (d:=.int k) rfl,Rb,zI];simp[cap]),z1Q,_f (by simp[cap];omega)];simp) (by
     rw[eg,_w];have h1:=z6E (n:=i+1) (m:=m);have h2:(m+1) ^ (i+1)<=(m+1) ^ n:=_aX (by omega) (by omega);have:(90000:Nat)<=cap:=by unfold cap;omega
     omega);rw[eg]at c;refine⟨[some (.int n),some (.int 0),some (.int m),some (.lst ((qV (i+1) m).map rD)),some x],S',?_,some x,rfl,rfl⟩;rw[zdQ,Rb];show yM [some (.int n),some (.int 0),some (.int m),some (.lst ((qV i m).map rD)),some x] S'=_;rw[yM,yw,c];rfl) [some (.int n),some (.int 0),some (.int m),some (.lst ((qV 0 m).map rD)),none] s ⟨none,rfl,rfl⟩;rw[_av,_w,List.length_range]at hρ;have f2:yJ [some (.int n),some (.int 0),some (.int m),some (.lst ((qV 0 m).map rD)),none] S'=.ok (.nx ρ') S':=by
  rw[yJ,z1a,z5n (n:=n) (s1:=S') (by omega) (by rw[zo,vr (d:=.int n) rfl,Rb,zI];rfl),Rb];exact lp
 have key:∀(dn dz dm d0 d:D) (a4:Option D),yL [some dn,some dz,some dm,none,none] S'=.ok (.nx [some dn,some dz,some dm,some d0,none]) S'->yJ [some dn,some dz,some dm,some d0,none] S'=.ok (.nx [some dn,some dz,some dm,some d,a4]) S'->zR [dn,dz,dm] S'=.ok d S':=λdn dz dm d0 d a4 h1 h2=>by
  have st:zE ["size","least","most","found","place"] [dn,dz,dm]=[some dn,some dz,some dm,none,none]:=rfl;simp only[zR,Mof,vd,st,_n,_F,_N];rw[zk h1,zk h2];rfl
 rw[hρ]at f2;exact key _ _ _ _ _ _ f1 f2
theorem z61{n b:Nat}(h1:2<=n)(h2:n<=b)(s:Sto):xG [.int n,.int b] s=.ok .non s:=by
 have w:=z20 (n:Int) s;have a1:decide ((2:Int)<=(n:Int))=true:=_bF (by omega);have a2:decide ((n:Int)<=(b:Int))=true:=_bF (by omega);have a3:¬ b<n:=by omega
 simp[xG,Mof,kM,zE,w,a1,a2,a3]
def wk(r:Rl)(d:Kv):Nat->List Int->List (List Int)
 | 0,c=>[c] | f+1,c=>if (xU d (K c)).isSome=true\/ended c=true then [c] else c::wk r d f (stp r c)
inductive Chain(r:Rl):List (List Int)->Prop | one (c:List Int):Chain r [c] | cons {c:List Int}{t:List (List Int)}:ended c=false->Chain r (stp r c::t)->Chain r (c::stp r c::t)
theorem z9x(r:Rl)(d:Kv)(f:Nat)(c:List Int):∃t,wk r d f c=c::t:=by cases f with
 | zero=>exact⟨[],rfl⟩ | succ f=>
  rw[wk];split;·exact⟨[],rfl⟩
  ·exact⟨_,rfl⟩
theorem z6S(r:Rl)(d:Kv):∀(f:Nat)(c:List Int),Chain r (wk r d f c)
 | 0,c=>.one c | f+1,c=>by
  rw[wk];split;·exact .one c
  ·rename_i q;have ih:=z6S r d f (stp r c);obtain⟨t,e⟩:=z9x r d f (stp r c);rw[e]at ih ⊢;exact .cons (by cases h:ended c with | false=>rfl | true=>exact absurd (.inr h) q) ih
theorem zg3{n b:Nat}{r:Rl}{d:Kv}:∀(f:Nat)(c:List Int),Lt n b c->∀v∈wk r d f c,Lt n b v
 | 0,c,h,v,hv=>by rw[_bd.mp hv];exact h | f+1,c,h,v,hv=>by
  rw[wk]at hv;split at hv;·rw[_bd.mp hv];exact h
  ·rename_i q;rcases _p.mp hv with rfl | hv;·exact h
   ·exact zg3 f _ (h.step r (by cases z:ended c with | false=>rfl | true=>exact absurd (.inr z) q)) v hv
theorem zaD {n b:Nat} {r:Rl} {d:Kv}:∀(f:Nat) (c:List Int),Lt n b c->mu r c<=f->∃p e,wk r d f c=p++[e]/\((xU d (K e)).isSome=true\/ended e=true)
 | 0,c,h,hf=>by
  refine⟨[],c,rfl,?_⟩;cases z:ended c with
  | true=>exact .inr rfl | false=>have:=z2w r h.lot z;omega
 | f+1,c,h,hf=>by
  rw[wk];split;·rename_i q;exact⟨[],c,rfl,q⟩
  ·rename_i q;have z:ended c=false:=by cases z:ended c with | false=>rfl | true=>exact absurd (.inr z) q
   have:=z2w r h.lot z;obtain⟨p,e,h1,h2⟩:=zaD (r:=r) (d:=d) f (stp r c) (h.step r z) (by omega);exact⟨c::p,e,by rw[h1];rfl,h2⟩
theorem z0L{n b:Nat}{r:Rl}{W:List (List Int)}(h:Chain r W):(∀v∈W,Lt n b v)->∀(j:Nat)(v:List Int),W.reverse[j]? = some v->∃e,W.reverse[0]? = some e/\nst r v=nst r e+j:=by induction h with
 | one c=>
  intro _ j v hj;have:j=0:=by have:=(_d.mp hj).1;simp at this;omega
  subst this;exact⟨v,hj,rfl⟩ | @cons c t he h ih=>
  intro hl j v hj;have ih:=ih λv hv=>hl v (.tail _ hv);rw[_aB]at hj ⊢;have z0:((stp r c::t).reverse++[c])[0]? = (stp r c::t).reverse[0]? := _r (by simp);rw[z0];by_cases q:j<(stp r c::t).reverse.length
  ·rw[_r q]at hj;exact ih j v hj
  ·rw[_aj (by omega)]at hj;have e1:j-(stp r c::t).reverse.length=0:=by have:=(_d.mp hj).1;simp at this ⊢;omega
   rw[e1]at hj;have:v=c:=by simpa using hj.symm
   subst this;obtain⟨e,h1,h2⟩:=ih t.length (stp r v) (by rw[_aB,_aj (by simp)];simp);refine⟨e,h1,?_⟩;rw[z2b (hl v (.head _)).lot he,h2];simp at e1 q;omega
abbrev F8(a0 a1 a2 a3 a4 a5 a6 a7:Option D):Ev:=[a0,a1,a2,a3,a4,a5,a6,a7]
abbrev zjf:FT:=zgg (tOf (eOp (zgh true) (eOp dIx (zc 5) (z5k (eC (.int 1)))) (zc 3))) (z3D (tOf (zd zH (za (eOp dIx (zc 5) (z5k (eC (.int 1)))) zi))))
section
variable {n b:Nat}{r:Rl}{d:Kv}{S:Sto}{l:Nat}(hd:Dk n b d)(hl:S[l]? = some (encD d))(hb:b<=900){a1 a2 a4 a6 a7:Option D}
include hd hl hb
theorem z9U (ps:List (List Int)) (c:List Int) (a0:Option D):eOp dIx (zc 5) (z5k (eC (.int 1))) (F8 a0 a1 a2 (some (.dlo l)) a4 (some (.loc S.length)) a6 a7) (S++[(ps++[c]).map rD])=.ok (rD c) (S++[(ps++[c]).map rD]):=by
 rw[op2 (x:=.loc S.length) (y:=.int (-1)) (vr rfl) rfl];exact z3o (xs:=ps.map rD) (by simp[zY])
theorem z7v {c:List Int} (hc:Lt n b c) (ps:List (List Int)) (a0:Option D):zjf (F8 a0 a1 a2 (some (.dlo l)) a4 (some (.loc S.length)) a6 a7) (S++[(ps++[c]).map rD])=.ok (!(xU d (K c)).isSome&&!ended c) (S++[(ps++[c]).map rD]):=by
 have ll:l<S.length:=(_d.mp hl).1;have hl2:(S++[(ps++[c]).map rD])[l]? = some (encD d):=by rw[_r ll];exact hl
 have ix:=z9U (a1:=a1) (a2:=a2) (a4:=a4) (a6:=a6) (a7:=a7) hd hl hb ps c a0;have he:=vq hc.lot (S++[(ps++[c]).map rD]);have da:=zdR hd hl2 c;generalize S++[(ps++[c]).map rD]=T at *;unfold zjf;rw[z7A,wA (b:=!(xU d (K c)).isSome) (by
  rw[op2 (x:=rD c) (y:=.dlo l) ix (vr rfl)];simp only[zgh,da];rfl),Rb];cases (xU d (K c)).isSome with
 | true=>rfl | false=>
  rw[_f (by rfl:(!false)=true),z7D,wA (b:=ended c) (by rw[wx (x:=rD c) ix];exact he),Rb];rfl
theorem z49:∀(f:Nat) (c:List Int) (ps:List (List Int)),Lt n b c->mu r c<=f->ps.length+f+1<90000-> wv zjf xa (f+1) (F8 (some (.str (nmR r))) a1 a2 (some (.dlo l)) a4 (some (.loc S.length)) a6 a7) (S++[(ps++[c]).map rD])=.ok (.nx (F8 (some (.str (nmR r))) a1 a2 (some (.dlo l)) a4 (some (.loc S.length)) a6 a7)) (S++[(ps++wk r d f c).map rD])
 | 0,c,ps,h,hf,hp=>by
  have t:=z7v (a1:=a1) (a2:=a2) (a4:=a4) (a6:=a6) (a7:=a7) hd hl hb h ps (some (.str (nmR r)));have e:ended c=true:=by cases z:ended c with
   | true=>rfl | false=>have:=z2w r h.lot z;omega
  rw[e,_aT,_cd]at t;rw[wv,t,Rb];rfl | f+1,c,ps,h,hf,hp=>by
  have t:=z7v (a1:=a1) (a2:=a2) (a4:=a4) (a6:=a6) (a7:=a7) hd hl hb h ps (some (.str (nmR r)));rw[wv,t,Rb,wk];by_cases q:(xU d (K c)).isSome=true\/ended c=true;·rw[_f q,_i (by rcases q with q | q<;>simp[q])]
  ·have z:ended c=false:=by cases z:ended c with | false=>rfl | true=>exact absurd (.inr z) q
   have k:(xU d (K c)).isSome=false:=by cases k:(xU d (K c)).isSome with | false=>rfl | true=>exact absurd (.inl k) q
   have m:=z2w r h.lot z;rw[_i q,_f (by simp[z,k])];have ix:=z9U (a1:=a1) (a2:=a2) (a4:=a4) (a6:=a6) (a7:=a7) hd hl hb ps c (some (.str (nmR r)));have sp:=z9R r (h.B hb) z (by decide) (S++[(ps++[c]).map rD]);have fl:(rD (stp r c)).flat=true:=wm _;have ih:=z49 f (stp r c) (ps++[c]) (h.step r z) (by omega) (by simp;omega);have ea:(ps++[c]++[stp r c]).map rD=(ps++[c]).map rD++[rD (stp r c)]:=by simp
   rw[_de ps [c] (wk r d f (stp r c)),ea]at ih;have ln:((ps++[c]).map rD).length<90000:=by simp;omega
   have f5:xa (F8 (some (.str (nmR r))) a1 a2 (some (.dlo l)) a4 (some (.loc S.length)) a6 a7) (S++[(ps++[c]).map rD])=.ok (.nx (F8 (some (.str (nmR r))) a1 a2 (some (.dlo l)) a4 (some (.loc S.length)) a6 a7)) (S++[(ps++[c]).map rD++[rD (stp r c)]]):=by
    generalize (ps++[c]).map rD=X at *;generalize rD (stp r c)=y at *;generalize rD c=w at *;rw[xa,uz,zb1,vr (d:=.loc S.length) rfl,Rb];simp only;rw[call2 (x:=.str (nmR r)) (y:=w) (vr rfl) ix,sp,Rb];have gt:(S++[X])[S.length]? = some X:=by simp
    rw[gt];simp only;rw[_f ⟨fl,by unfold cap;omega⟩,zeJ];rfl
   rw[f5,Rb];exact ih
end
def zfX(d d':Kv):Prop:=∀k,(xU d k).isSome=true->(xU d' k).isSome=true
theorem zfX.put(d:Kv)(k:List Key)(u:V):zfX d (uV d k u):=λj h=>by
 rw[z2D];split;·rfl
 ·exact h
abbrev ziC:D->Ev->Sto->R Fl:=λx ρ s=>(wH 7 x ρ s).bind fun ρ' s'=>(zA yB xS) ρ' s'
abbrev zhB:D->Ev->Sto->R Fl:=λx ρ s=>(wH 4 x ρ s).bind fun ρ' s'=>(zA yu (zA yy (zA yx xf))) ρ' s'
def unK(k:List Key):List Int:=k.map λ| .inl i=>i | .inr _=>0
theorem z3O:∀v:List Int,unK (K v)=v
 | []=>rfl | x::v=>by
  have:=z3O v;simp only[unK,K,_j]at this ⊢;rw[this]
def flt(r:Rl)(M:Nat)(d:Kv):List (List Int):=((d.map (·.1)).map unK).filter λw=>decide (nst r w=M)
theorem z8O{r:Rl}{M:Nat}{d:Kv}{v:List Int}{u:V}(h:nst r v=M->(xU d (K v)).isSome=false):flt r M (uV d (K v) u)=flt r M d++if nst r v=M then [v] else []:=by
 unfold flt;rw[z4p];by_cases q:(d.any λkv=>decide (kv.1=K v))=true;·rw[_f q,_i (λz=>by have:=h z;rw[<- uM,q]at this;cases this),_aQ]
 ·rw[_i q,_bV,_c3];by_cases z:nst r v=M;·simp[z3O,z]
  ·simp[z3O,z]
def z3C(r:Rl)(d:Kv):List (List Int)->Kv
 | []=>d | v::W=>z3C r (uV d (K v) (.int (nst r v))) W
theorem z2H(r:Rl):∀(W:List (List Int))(d:Kv)(v:List Int),z3C r d (W++[v])=uV (z3C r d W) (K v) (.int (nst r v))
 | [],d,v=>rfl | w::W,d,v=>z2H r W _ v
theorem z8B{r:Rl}{M:Nat}:∀(W:List (List Int))(d:Kv),(∀w∈W,nst r w<M)->flt r M (z3C r d W)=flt r M d
 | [],d,_=>rfl | w::W,d,h=>by
  have hw:=h w (.head _);rw[z3C,z8B W _ λx hx=>h x (.tail _ hx),z8O (λz=>by omega),_i (by omega),_aQ]
theorem z8M{r:Rl}{v:List Int}:∀(W:List (List Int))(d:Kv),v∉W->xU (z3C r d W) (K v)=xU d (K v)
 | [],d,_=>rfl | w::W,d,h=>by rw[z3C,z8M W _ (λz=>h (.tail _ z)),z2D,_i (λz=>h (by rw[zfd z];exact .head _))]
theorem z8k {n b:Nat} {r:Rl} (hn:Sz n) (hb:(b+1) ^ n<=90000) {W:List (List Int)} (ch:Chain r W) (hW:∀v∈W,Lt n b v) {e:List Int} (he:W.reverse[0]? = some e) {d:Kv} {S:Sto} {l:Nat} (hd:Dk n b d) (ho:Ok r d) (hl:S[l]? = some (encD d)) (a0 a1 a2 a4 a5 a7:Option D): ∃b6 b7 S',wE [] (W.reverse.map rD) ziC (W.reverse.map rD) (F8 a0 a1 a2 (some (.dlo l)) a4 a5 (some (.int (nst r e))) a7) S=.ok (.nx (F8 a0 a1 a2 (some (.dlo l)) a4 a5 b6 b7)) S'/\Dk n b (z3C r d W.reverse)/\Ok r (z3C r d W.reverse)/\S'[l]? = some (encD (z3C r d W.reverse))/\zfX d (z3C r d W.reverse)/\(∀v∈W,(xU (z3C r d W.reverse) (K v)).isSome=true)/\S'.length=S.length/\∀j,j≠l->S'[j]? = S[j]? := by
 obtain⟨ρ',S',lp,z7,hρ,h1,h2,h3,h4,h5,h6,h7⟩:=jK (all:=W.reverse.map rD) (body:=ziC) (λj ρ S'=>∃z7,ρ=F8 a0 a1 a2 (some (.dlo l)) a4 a5 (some (.int ((nst r e+j:Nat):Int))) z7/\Dk n b (z3C r d (W.reverse.take j))/\Ok r (z3C r d (W.reverse.take j))/\S'[l]? = some (encD (z3C r d (W.reverse.take j)))/\zfX d (z3C r d (W.reverse.take j))/\(∀v∈W.reverse.take j,(xU (z3C r d (W.reverse.take j)) (K v)).isSome=true)/\S'.length=S.length/\∀j,j≠l->S'[j]? = S[j]?) (W.reverse.map rD) 0 (by
  intro j x hx ρ S1 ⟨z7,hρ,h1,h2,h3,h4,h5,h6,h7⟩;subst hρ;rw[_av]at h1 h2 h3 h4 h5 ⊢;rw[_S,_x]at hx;obtain⟨v,hv,rfl⟩:=hx;obtain⟨e',he',hj⟩:=z0L ch hW j v hv;rw[he]at he';cases he';have hvW:v∈W:=_cv.mp (_y hv);have ts:W.reverse.take (j+1)=W.reverse.take j++[v]:=by rw[List.take_add_one,hv];rfl
  rw[ts,z2H];generalize z3C r d (W.reverse.take j)=d1 at *;have ln:d1.length<cap:=by have:=h1.len hn;unfold cap;omega
  have l1:l<S1.length:=(_d.mp h3).1;have f8:yB (F8 a0 a1 a2 (some (.dlo l)) a4 a5 (some (.int ((nst r e+j:Nat):Int))) (some (rD v))) S1=.ok (.nx (F8 a0 a1 a2 (some (.dlo l)) a4 a5 (some (.int ((nst r e+j:Nat):Int))) (some (rD v)))) (S1.set l (encD (uV d1 (K v) (.int (nst r v))))):=by
   rw[yB,hj];exact zeN h1 (vr rfl) (vr rfl) (vr rfl) h3 ln
  refine⟨F8 a0 a1 a2 (some (.dlo l)) a4 a5 (some (.int ((nst r e+(j+1):Nat):Int))) (some (rD v)),S1.set l (encD (uV d1 (K v) (.int (nst r v)))),?_,some (rD v),rfl,h1.put (hW v hvW) _,h2.put,_Z l1,λk hk=>zfX.put _ _ _ k (h4 k hk),λw hw=>?_,by rw[List.length_set,h6],λi hi=>by rw[_L (_a4 hi),h7 i hi]⟩
  ·show (zA yB xS) (F8 a0 a1 a2 (some (.dlo l)) a4 a5 (some (.int ((nst r e+j:Nat):Int))) (some (rD v))) S1=_;rw[zk f8];rfl
  ·rcases _M.mp hw with hw | hw;·exact zfX.put _ _ _ _ (h5 w hw)
   ·rw[_bd.mp hw,z2D,_f rfl];rfl) (F8 a0 a1 a2 (some (.dlo l)) a4 a5 (some (.int (nst r e))) a7) S ⟨a7,rfl,hd,ho,hl,λ_ h=>h,by simp,rfl,λ_ _=>rfl⟩;rw[_av,_w,List.take_length]at h1 h2 h3 h4 h5;exact⟨_,z7,S',lp.trans (by rw[hρ]),h1,h2,h3,h4,λv hv=>h5 v (_cv.mpr hv),h6,h7⟩
abbrev G8(r:Rl)(a1 a2:Option D)(l:Nat)(v:List Int)(a5 a6 a7:Option D):Ev:=F8 (some (.str (nmR r))) a1 a2 (some (.dlo l)) (some (rD v)) a5 a6 a7
theorem z9q {n b:Nat} {r:Rl} (hn:Sz n) (hb:b<=30) (hb2:(b+1) ^ n<=90000) {v:List Int} (hv:Lt n b v) {M:Nat} (hM:nst r v<=M) {d:Kv} {S:Sto} {l:Nat} (hd:Dk n b d) (ho:Ok r d) (hl:S[l]? = some (encD d)) (new:nst r v=M->(xU d (K v)).isSome=false) (a1 a2 a4 a5 a6 a7:Option D): ∃b5 b6 b7 d' S',zhB (rD v) (F8 (some (.str (nmR r))) a1 a2 (some (.dlo l)) a4 a5 a6 a7) S=.ok (.nx (G8 r a1 a2 l v b5 b6 b7)) S'/\Dk n b d'/\Ok r d'/\S'[l]? = some (encD d')/\zfX d d'/\(xU d' (K v)).isSome=true/\flt r M d'=flt r M d++(if nst r v=M then [v] else [])/\S.length<=S'.length/\∀j,j≠l->j<S.length->S'[j]? = S[j]? := by
 have mb:mu r v<=103:=by
  have:=zgm (m:=5) (r:=r) hv.lot λx hx=>by
   have h1:=hv.le x hx;have h2:=hv.lot.nn x hx;have:x.toNat<=30:=by omega
   exact Nat.lt_of_le_of_lt this (by decide)
  omega
 have ll:l<S.length:=(_d.mp hl).1;obtain⟨p,e,hpe,hlast⟩:=zaD (r:=r) (d:=d) 103 v hv mb;have he:Lt n b e:=zg3 (r:=r) (d:=d) 103 v hv e (by rw[hpe];simp);have f3:yu (G8 r a1 a2 l v a5 a6 a7) S=.ok (.nx (G8 r a1 a2 l v (some (.loc S.length)) a6 a7)) (S++[([]++[v]).map rD]):=by
  have fl:=z2t [v];simp only[_j,_dL]at fl;simp only[_bw,_j,_dL];unfold G8;generalize rD v=x at *;rw[yu,yw,zaR,zo,vr (d:=x) rfl,Rb,zI];simp only[Rb];rw[_f ⟨by simp[cap],fl⟩];rfl
 have f4:yy (G8 r a1 a2 l v (some (.loc S.length)) a6 a7) (S++[([]++[v]).map rD])=.ok (.nx (G8 r a1 a2 l v (some (.loc S.length)) a6 a7)) (S++[(wk r d 103 v).map rD]):=by
  have lp:=z49 (r:=r) (a1:=a1) (a2:=a2) (a4:=some (rD v)) (a6:=a6) (a7:=a7) hd hl (by omega) 103 v [] hv mb (by simp);rw[_bw (wk r d 103 v)]at lp;rw[yy];exact z7h lp (by simp)
 have hl2:(S++[(wk r d 103 v).map rD])[l]? = some (encD d):=by rw[_r ll];exact hl
 have da:=zdR hd hl2 e;have f6:yx (G8 r a1 a2 l v (some (.loc S.length)) a6 a7) (S++[(wk r d 103 v).map rD])=.ok (.nx (G8 r a1 a2 l v (some (.loc S.length)) (some (.int (nst r e))) a7)) (S++[(wk r d 103 v).map rD]):=by
  have ix:eOp dIx (zc 5) (z5k (eC (.int 1))) (G8 r a1 a2 l v (some (.loc S.length)) a6 a7) (S++[(wk r d 103 v).map rD])=.ok (rD e) (S++[(wk r d 103 v).map rD]):=by
   rw[op2 (x:=.loc S.length) (y:=.int (-1)) (vr rfl) rfl];exact z3o (xs:=p.map rD) (by simp[zY,hpe])
  generalize S++[(wk r d 103 v).map rD]=T at *;rw[yx,yw,zbU,vr (d:=.dlo l) rfl,Rb];simp only;rw[ix,Rb,z2Q,Rb,da];cases hval:xU d (K e) with
  | some u=>rw[ho.val hval];rfl | none=>
   have:ended e=true:=hlast.resolve_left (by simp[hval]);rw[z8D this];rfl
 have rev0:(wk r d 103 v).reverse[0]? = some e:=by rw[hpe];simp
 have ch:=z6S r d 103 v;have hW:=zg3 (r:=r) (d:=d) 103 v hv;obtain⟨b6,b7,S',lp,h1,h2,h3,h4,h5,h6,h7⟩:=z8k hn hb2 ch hW rev0 hd ho hl2 (some (.str (nmR r))) a1 a2 (some (rD v)) (some (.loc S.length)) a7;obtain⟨t,ht⟩:=z9x r d 103 v;have low:∀w∈t.reverse,nst r w<nst r v:=λw hw=>by
  obtain⟨j,hj⟩:=List.getElem?_of_mem hw;have lt:=(_d.mp hj).1;have g1:(wk r d 103 v).reverse[j]? = some w:=by rw[ht,_aB,_r lt];exact hj
  have g2:(wk r d 103 v).reverse[t.length]? = some v:=by rw[ht,_aB,_aj (by simp)];simp
  obtain⟨e1,q1,n1⟩:=z0L ch hW j w g1;obtain⟨e2,q2,n2⟩:=z0L ch hW t.length v g2;rw[q1]at q2;cases q2;simp at lt;omega
 refine⟨some (.loc S.length),b6,b7,_,S',?_,h1,h2,h3,h4,h5 v ?_,?_,by rw[h6];simp,λj hj hlt=>by rw[h7 j hj,_r hlt]⟩
 ·show (zA yu (zA yy (zA yx xf))) (G8 r a1 a2 l v a5 a6 a7) S=_;rw[zk f3,zk f4,zk f6];have it:yG (z4F (zc 5)) (G8 r a1 a2 l v (some (.loc S.length)) (some (.int (nst r e))) a7) (S++[(wk r d 103 v).map rD])=.ok ((wk r d 103 v).reverse.map rD,[]) (S++[(wk r d 103 v).map rD]):=by
   refine xc ?_;rw[z8T,vr (d:=.loc S.length) rfl,Rb];simp[Dd.listOf]
  rw[xf,z1a,it,Rb];exact lp
 ·rw[ht];exact .head _
 ·rw[ht,_aB,z2H,z8O (λz=>?_),z8B t.reverse d (λw hw=>by have:=low w hw;omega)];rw[z8M t.reverse d (λw=>by have:=low v w;omega)];exact new z
abbrev H8(r:Rl)(n b:Nat)(s:Sto)(a4 a5 a6 a7:Option D):Ev:=F8 (some (.str (nmR r))) (some (.int n)) (some (.int b)) (some (.dlo s.length)) a4 a5 a6 a7
theorem z0q {n b:Nat} (r:Rl) (hn:Sz n) (hb:b<=30) (hb2:(b+1) ^ n<=90000) {M:Nat} (hM:∀v,Lt n b v->nst r v<=M) (s:Sto):∃d S',yh [.str (nmR r),.int n,.int b] s=.ok (.dlo s.length) S'/\Dk n b d/\Ok r d/\S'[s.length]? = some (encD d)/\(∀v,Lt n b v->(xU d (K v)).isSome=true)/\flt r M d=(every n b).filter (λw=>decide (nst r w=M))/\∀j,j<s.length->S'[j]? = s[j]? := by
 have tb:=zc0 (n:=n) (m:=b) (by unfold Sz at hn;omega) hb hb2 (s++[Dd.encD []]);have ndE:(every n b).Nodup:=(z5T n b).nodup.drop;obtain⟨ρ',S',lp,b4,b5,b6,b7,d,hρ,h1,h2,h3,h5,h6,h7,h8⟩:=jK (all:=(every n b).map rD) (body:=zhB) (λi ρ S'=>∃b4 b5 b6 b7 d,ρ=H8 r n b s b4 b5 b6 b7/\Dk n b d/\Ok r d/\S'[s.length]? = some (encD d)/\(∀v∈(every n b).take i,(xU d (K v)).isSome=true)/\flt r M d=((every n b).take i).filter (λw=>decide (nst r w=M))/\s.length<S'.length/\∀j,j<s.length->S'[j]? = s[j]?) ((every n b).map rD) 0 (by
  intro i x hx ρ S1 ⟨b4,b5,b6,b7,d,hρ,h1,h2,h3,h5,h6,h7,h8⟩;subst hρ;rw[_av]at h5 h6 ⊢;rw[_S,_x]at hx;obtain⟨v,hv,rfl⟩:=hx;have ts:(every n b).take (i+1)=(every n b).take i++[v]:=by rw[List.take_add_one,hv];rfl
  have hvL:=(vj hn).mp (_y hv);have notin:v∉(every n b).take i:=λz=>by
   have nd:((every n b).take (i+1)).Nodup:=(_bE (i+1) (every n b)).nodup ndE;rw[ts,_dh]at nd;exact nd.2.2 v z v (by simp) rfl
  obtain⟨c5,c6,c7,d',S',e,k1,k2,k3,k4,k5,k6,k7,k8⟩:=z9q (r:=r) hn hb hb2 hvL (hM v hvL) h1 h2 h3 (λz=>by cases q:xU d (K v) with
   | none=>rfl | some u=>
    refine absurd ?_ notin;have:v∈flt r M d:=by
     unfold flt;rw[_bR];refine⟨?_,by simpa using z⟩;rw[_ai];exact _A.mpr ⟨_,z2n q,z3O v⟩
    rw[h6]at this;exact (_bR.mp this).1) (some (.int n)) (some (.int b)) b4 b5 b6 b7;refine⟨_,S',e,_,_,_,_,d',rfl,k1,k2,k3,λw hw=>?_,?_,by omega,λj hj=>by rw[k8 j (by omega) (by omega),h8 j hj]⟩
  ·rw[ts]at hw;rcases _M.mp hw with hw | hw;·exact k4 _ (h5 w hw)
   ·rw[_bd.mp hw];exact k5
  ·rw[k6,h6,ts,_c3];by_cases z:nst r v=M;·simp[z]
   ·simp[z]) (H8 r n b s none none none none) (s++[Dd.encD []]) ⟨_,_,_,_,[],rfl,⟨List.Pairwise.nil,by simp⟩,λp hp=>by simp at hp,by simp,by simp,by simp[flt],by simp,λj hj=>by rw[_r hj]⟩;rw[_av,_w,List.take_length]at h5 h6;refine⟨d,S',?_,h1,h2,h3,λv hv=>h5 v ((vj hn).mpr hv),h6,h8⟩;have f1:xR (F8 (some (.str (nmR r))) (some (.int n)) (some (.int b)) none none none none none) s=.ok (.nx (H8 r n b s none none none none)) (s++[Dd.encD []]):=rfl;have it:yG (eSl (zd zR (za (zc 1) (za (eC (.int 0)) (za (zc 2) zi)))) (wZ (eC (.int 1))) yj) (H8 r n b s none none none none) (s++[Dd.encD []])=.ok ((every n b).map rD,[]) (s++[Dd.encD []]):=by
  refine xc ?_;have sl:dSl (.lst ((qV n b).map rD)) (some ((1:Nat):Int)) none (s++[Dd.encD []])=.ok (.lst ((every n b).map rD)) (s++[Dd.encD []]):=by
   have e:=z3p ((qV n b).map rD) 1 (s++[Dd.encD []]);have e2:Dd.cutD ((qV n b).map rD) (some ((1:Nat):Int)) none=((qV n b).map rD).drop 1:=by simpa[dSl] using e
   simp only[dSl,Dd.listOf,e2];rw[every,_bP]
  generalize (qV n b).map rD=A at *;generalize (every n b).map rD=B at *;rw[z55,z65 (x:=.int n) (y:=.int 0) (z:=.int b) (vr rfl) rfl (vr rfl),tb,Rb];simp only[qJ,z2Q,vg,Rb];exact sl
 have f2:xb (H8 r n b s none none none none) (s++[Dd.encD []])=.ok (.nx ρ') S':=by
  rw[xb,z1a,it,Rb];exact lp
 rw[hρ]at f2;have key:∀(dr dn db:D) (b4 b5 b6 b7:Option D),xR (F8 (some dr) (some dn) (some db) none none none none none) s=.ok (.nx (F8 (some dr) (some dn) (some db) (some (.dlo s.length)) none none none none)) (s++[Dd.encD []])->xb (F8 (some dr) (some dn) (some db) (some (.dlo s.length)) none none none none) (s++[Dd.encD []])=.ok (.nx (F8 (some dr) (some dn) (some db) (some (.dlo s.length)) b4 b5 b6 b7)) S'->yh [dr,dn,db] s=.ok (.dlo s.length) S':=λdr dn db b4 b5 b6 b7 k1 k2=>by
  have st:zE ["rule","size","most","steps","lot","path","many","behind"] [dr,dn,db]=F8 (some dr) (some dn) (some db) none none none none none:=rfl;simp only[yh,Mof,uB,st,_n,_F,_N];rw[zk k1,zk k2];rfl
 exact key _ _ _ _ _ _ _ f1 f2
def mx(r:Rl)(n b:Nat):Int:=maxL ((every n b).map λv=>(nst r v:Int))
def bst(r:Rl)(n b:Nat):List (List Int):=(every n b).filter λw=>decide (nst r w=(mx r n b).toNat)
theorem zbz{n b:Nat}(hn:Sz n)(hb:1<=b):every n b≠[]:=λh=>by
 have:List.replicate n (1:Int)∈every n b:=(vj hn).mpr ⟨⟨hn,by simp,λx hx=>by rw[_aF hx];omega,1,by rw[List.mem_replicate];unfold Sz at hn;omega,by omega⟩,λx hx=>by rw[_aF hx];omega⟩;rw[h]at this;cases this
theorem ze5{n b:Nat}(r:Rl)(hn:Sz n)(hb:1<=b):∃v,Lt n b v/\mx r n b=(nst r v:Int):=by
 have:=maxL_mem (xs:=(every n b).map λv=>(nst r v:Int)) (by simpa using zbz hn hb);obtain⟨v,hv,e⟩:=_A.mp this;exact⟨v,(vj hn).mp hv,e.symm⟩
theorem zeA{n b:Nat}{r:Rl}(hn:Sz n){v:List Int}(h:Lt n b v):(nst r v:Int)<=mx r n b:=maxL_ge _ (_A.mpr ⟨v,(vj hn).mpr h,rfl⟩)
theorem zad{n b:Nat}{r:Rl}(hn:Sz n)(hb:1<=b):(((mx r n b).toNat:Nat):Int)=mx r n b:=by
 obtain⟨v,_,e⟩:=ze5 r hn hb;omega
theorem z6i{n b:Nat}{r:Rl}(hn:Sz n){v:List Int}:v∈bst r n b ↔ Lt n b v/\nst r v=(mx r n b).toNat:=by
 unfold bst;rw[_bR,vj hn];simp
theorem z9L(r:Rl)(n b:Nat):Up (bst r n b):=((z5T n b).drop).filter _
theorem zai{n b:Nat}{r:Rl}:∀{d:Kv},(∀p∈d,∃v,Lt n b v/\p.1=K v/\∃z:Nat,p.2=.int ((z:Nat):Int))->Ok r d->z1g d=some (d.map λp=>((nst r (unK p.1):Nat):Int))
 | [],_,_=>rfl | (k,u)::d,h,ok=>by
  obtain⟨v,hv,e,_⟩:=h (k,u) (.head _);have eu:=ok (k,u) (.head _) v e;simp only at e eu;subst e eu;simp only[z1g,zai (d:=d) (λp hp=>h p (.tail _ hp)) (λp hp=>ok p (.tail _ hp)),_H,_j,z3O]
theorem zeO{α:Type}{fi:FI}{mp:List (Option Nat)}{fg:FG}{ft:FT}{fe:FE}{ρ:Ev}{s s1:Sto}(g f:α->D)(p:α->Bool)(ev:α->Ev)(l:List α) (hi:fi ρ s=.ok (l.map g,[]) s1)(hg:∀a∈l,fg (g a) (zW mp ρ) s1=.ok (ev a) s1)(ht:∀a∈l,ft (ev a) s1=.ok (p a) s1)(he:∀a∈l,p a=true->fe (ev a) s1=.ok (f a) s1)(hl:l.length<=cap): zK fi mp fg ft fe ρ s=.ok (.lst ((l.filter p).map f)) s1:=by
 rw[jL,z15,hi,Rb];rw[ug g f p l [] (by
  intro a ha;simp only[hg a ha,ht a ha,Rb];cases hp:p a with
  | true=>simp[he a ha hp] | false=>simp) (by simpa using hl)];rfl
theorem zdc{M:Mir}{f:FE}{ρ:Ev}{s s1:Sto}{x:D}(h:f ρ s=.ok x s1):zd M (za f zi) ρ s=M [x] s1:=by simp only[yI,zo,zI,h,Rb]
abbrev W5(a0 a1 a2 a3 a4:Option D):Ev:=[a0,a1,a2,a3,a4]
theorem zhU {n b:Nat} (hn:Sz n) (r:Rl) (hb1:1<=b) (hb:b<=8) (s:Sto):∃j S',xo [.str (nmR r),.int n,.int b] s=.ok (.tup [.int (mx r n b),.loc j]) S'/\S'[j]? = some ((bst r n b).map rD)/\s.length<=j/\∀k,k<s.length->S'[k]? = s[k]? := by
 have n2:2<=n:=by unfold Sz at hn;omega
 have n4:n<=4:=by unfold Sz at hn;omega
 have hb2:(b+1) ^ n<=6561:=by
  have h1:(b+1) ^ n<=9 ^ n:=Nat.pow_le_pow_left (by omega) n;have h2:9 ^ n<=9 ^ 4:=_aX (by decide) n4;have h3:(9:Nat) ^ 4=6561:=by decide
  omega
 have w1:=vA r s;have w2:=Pt.z61 (b:=4) n2 n4 s;have w3:=z86 (x:=(b:Int)) (a:=1) (b:=8) (by omega) (by omega) s;obtain⟨d,S',e,dk,ok,hl,all,fl,fr⟩:=z0q r hn (b:=b) (by omega) (by omega) (M:=(mx r n b).toNat) (λv hv=>by have:=zeA (r:=r) hn hv;omega) s;have dl:d.length<=6561:=by have:=dk.len hn;omega
 have lS:s.length<S'.length:=(_d.mp hl).1;have hF:(S'.set s.length (.non::Dd.encD d))[s.length]? = some (.non::Dd.encD d):=_Z lS;have keys:∀v∈d.map (λp=>unK p.1),Lt n b v/\xU d (K v)=some (.int (nst r v)):=λv hv=>by
  obtain⟨p,hp,rfl⟩:=_A.mp hv;obtain⟨w,hw,e1,_⟩:=dk.key p hp;obtain⟨u,hu⟩:=zax hp;rw[e1]at hu;simp only[e1,z3O];exact⟨hw,by rw[hu,ok.val hu]⟩
 have kD:z2e d=(d.map λp=>unK p.1).map rD:=by
  rw[z2e,_ai];refine _ay λp hp=>?_;obtain⟨w,hw,e1,_⟩:=dk.key p hp;simp only[Function.comp,e1,z3O];exact zcM w
 have mem:∀v,Lt n b v->v∈d.map (λp=>unK p.1):=λv hv=>by
  obtain⟨u,hu⟩:=_am.mp (all v hv);exact _A.mpr ⟨_,z2n hu,z3O v⟩
 have ll:(d.map λp=>unK p.1).length<=6561:=by simpa using dl
 have decd:zbk (Dd.encD d)=some d:=z2m dk.all;have vals:=zai (r:=r) dk.key ok;have vals2:z1g d=some ((d.map λp=>unK p.1).map λv=>(nst r v:Int)):=by rw[vals,_ai];rfl
 have fl2:(d.map λp=>unK p.1).filter (λw=>decide (nst r w=(mx r n b).toNat))=bst r n b:=by
  rw[bst,<- fl,flt,_ai];rfl
 generalize hL:(d.map λp=>unK p.1)=L at *;have neL:L≠[]:=λz=>by
  obtain⟨v,hv,_⟩:=ze5 r hn hb1;have:=mem v hv;rw[z]at this;cases this
 have mxL:maxL (L.map λv=>(nst r v:Int))=mx r n b:=by
  refine _cL ?_ ?_
  ·obtain⟨v,hv,e⟩:=_A.mp (maxL_mem (xs:=L.map λv=>(nst r v:Int)) (by simpa using neL));rw[<- e];exact zeA hn (keys v hv).1
  ·obtain⟨v,hv,e⟩:=ze5 r hn hb1;rw[e];exact maxL_ge _ (_A.mpr ⟨v,mem v hv,rfl⟩)
 have f5:∀a0 a1 a2,wW (W5 a0 a1 a2 (some (.dlo s.length)) none) S'=.ok (.nx (W5 a0 a1 a2 (some (.dlo s.length)) (some (.int (mx r n b))))) S':=λa0 a1 a2=>by cases hc:L.map (λv=>(nst r v:Int)) with
  | nil=>exact absurd (List.map_eq_nil_iff.mp hc) neL | cons z zs=>
   rw[hc]at vals2 mxL;rw[wW,yw,zej,vr (d:=.dlo s.length) rfl,Rb];simp only[hl,_J,decd,vals2,mxL];rfl
 have dg:∀v∈L,ui (S'.set s.length (.non::Dd.encD d)) (.dlo s.length) (rD v)=some (some (.int (nst r v))):=λv hv=>by rw[zii dk hF,(keys v hv).2]
 have it:∀ ρ:Ev,ρ[3]? = some (some (.dlo s.length))->z6h (zc 3) ρ S'=.ok (L.map rD,[]) (S'.set s.length (.non::Dd.encD d)):=fun ρ hρ=>by
  rw[zeQ,vr hρ,Rb];simp only[hl,_J,decd];rw[kD]
 have frT:∀k,k<s.length->(S'.set s.length (.non::Dd.encD d))[k]? = s[k]? := λk hk=>by rw[_L (by omega),fr k hk]
 have lT:s.length<(S'.set s.length (.non::Dd.encD d)).length:=by rw[List.length_set];exact lS
 generalize S'.set s.length (.non::Dd.encD d)=T at *;have mn:=zad (r:=r) hn hb1;generalize hm:mx r n b=m at *;have c:∀a0 a1 a2,zK (z6h (zc 3)) [some 4,some 3,none] (wH 2) (tOf (eOp dEq (z8s (zc 1) (zc 2)) (zc 0))) (zc 2) (W5 a0 a1 a2 (some (.dlo s.length)) (some (.int m))) S'=.ok (.lst ((bst r n b).map rD)) T:=λa0 a1 a2=>by
  rw[<- fl2];exact zeO (s:=S') (s1:=T) (ρ:=W5 a0 a1 a2 (some (.dlo s.length)) (some (.int m))) (fi:=z6h (zc 3)) (mp:=[some 4,some 3,none]) (fg:=wH 2) (ft:=tOf (eOp dEq (z8s (zc 1) (zc 2)) (zc 0))) (fe:=zc 2) rD rD (λv=>decide (nst r v=m.toNat)) (λv=>[some (.int m),some (.dlo s.length),some (rD v)]) L (it _ rfl) (λv _=>rfl) (λv hv=>wA (by rw[op2 (x:=.int (nst r v)) (y:=.int m) (by rw[zfm,vr (d:=.dlo s.length) rfl,Rb,vr (d:=rD v) rfl,Rb,dg v hv];rfl) (vr rfl),zf2,show decide ((nst r v:Int)=m)=decide (nst r v=m.toNat) from decide_eq_decide.mpr (by omega)])) (λv hv _=>vr rfl) (by unfold cap;omega)
 have fB:=z2t (bst r n b);have gs:km [.lst ((bst r n b).map rD)] T=.ok (.loc T.length) (T++[(bst r n b).map rD]):=zaH (z9L r n b) (λv hv=>((z6i hn).mp hv).1.lot.ne) fB;generalize (bst r n b).map rD=B at *;have key:∀(dr dn ds:D),zJ [dr] s=.ok .non s->xG [dn,.int 4] s=.ok .non s->yS [ds,.int 1,.int 8] s=.ok .non s->yh [dr,dn,ds] s=.ok (.dlo s.length) S'->xo [dr,dn,ds] s=.ok (.tup [.int m,.loc T.length]) (T++[B]):=λdr dn ds h1 h2 h3 h4=>by
  have st:zE ["rule","size","number","steps","most"] [dr,dn,ds]=W5 (some dr) (some dn) (some ds) none none:=rfl;simp only[xo,Mof,jl,st,_n,_F,_N];rw[zk (ρ':=W5 (some dr) (some dn) (some ds) none none) (s':=s) (by rw[uZ,uz,wx (x:=dr) (vr rfl),h1];rfl)];rw[zk (ρ':=W5 (some dr) (some dn) (some ds) none none) (s':=s) (by rw[uY,uz,call2 (x:=dn) (y:=.int 4) (vr rfl) rfl,h2];rfl)];rw[zk (ρ':=W5 (some dr) (some dn) (some ds) none none) (s':=s) (by rw[uW,uz,z65 (x:=ds) (y:=.int 1) (z:=.int 8) (vr rfl) rfl rfl,h3];rfl)];rw[zk (ρ':=W5 (some dr) (some dn) (some ds) (some (.dlo s.length)) none) (s':=S') (by rw[qd,yw,z65 (x:=dr) (y:=dn) (z:=ds) (vr rfl) (vr rfl) (vr rfl),h4];rfl)];rw[zk (f5 _ _ _),qe,xW,vP,zo,vr (d:=.int m) rfl,Rb,zo,zdc (c _ _ _),gs,Rb,zI];simp[cap]
 exact⟨T.length,T++[B],key _ _ _ w1 w2 w3 e,by simp,by omega,λk hk=>by rw[_r (by omega),frT k hk]⟩
end Pt
namespace Po
open L2 Dd Pm Pg Pn
theorem z0e{n m:Nat}{r:Rl}{v:List Int}{ls:List (List Int)}(h:LotB n m v)(Rn:Run r v ls):∀a∈ls,a.length=n:=by induction Rn with
 | done e=>intro a ha;simp at ha;subst ha;exact h.len | step e R2 ih=>
  intro a ha;rcases _p.mp ha with rfl | ha;·exact h.len
  ·exact ih (h.step r e) a ha
theorem z7g{n:Nat}{v:List Int}(r:Rl)(h:LotB n 104 v):∃ls,Run r v ls/\ls.length<=50000:=by
 obtain⟨ls,Rn,ll⟩:=zdP (r:=r) (20*104+3) v h.toLot (zgm (r:=r) h.toLot h.toN);exact⟨ls,Rn,by omega⟩
end Po
namespace Pr
open L2 Dd Pm Pg Pn Po Pp
theorem m_many(n:Nat)(b:Nat):∃k:Nat,(if (if (b:Int)<(n:Int) then (b:Int) else n) > 1 then (if (b:Int)<(n:Int) then (b:Int) else n) else 1)=(k:Int)/\k<=b+1:=by
 by_cases h:(b:Int)<n
 ·rw[_f h];by_cases h2:(b:Int) > 1;·exact⟨b,by rw[_f h2],by omega⟩
  ·exact⟨1,by rw[_i h2];rfl,by omega⟩
 ·rw[_i h];by_cases h2:(n:Int) > 1;·exact⟨n,by rw[_f h2],by omega⟩
  ·exact⟨1,by rw[_i h2];rfl,by omega⟩
end Pr
namespace K33
open L2 Dd Pm Pg Pn Po Pt
theorem z9X{n:Nat}{r:Rl}{v:List Int}{ls:List (List Int)}(R:Run r v ls):Lot n v->ls.length=nst r v+1:=by induction R with
 | done he=>intro _;rw[z8D he];rfl | @step v ls he R ih=>intro h;rw[z2b h he,_n,ih (h.step r he)]
theorem um{n m:Nat}{v:List Int}{r:Rl}{ls:List (List Int)}(h:LotB n m v)(hm:m<=1999)(Rn:Run r v ls)(hl:ls.length<=50000){f g:FE}{ρ:Ev}{s:Sto}(hf:f ρ s=.ok (.str (nmR r)) s)(hg:g ρ s=.ok (rD v) s):jh (zd M_run (za f (za g zi))) ρ s=.ok (.lst (ls.map rD)) s:=by rw[z8x,call2 hf hg,zgG r h Rn hm hl s,z7s]
theorem m_many {n:Nat} {v:List Int} (r:Rl) (h:LotB n 104 v) (s:Sto):zD [.str (nmR r),rD v] s=.ok (.int (nst r v)) s:=by
 obtain⟨ls,Rn,hl⟩:=z7g r h;have ll:=z9X Rn h.toLot;have fz:=um (f:=zc 0) (g:=zc 1) (ρ:=[some (.str (nmR r)),some (rD v)]) (s:=s) h (by decide) Rn hl rfl rfl;have key:∀(d e:D) (xs:List D),xs.length=nst r v+1->jh (zd M_run (za (zc 0) (za (zc 1) zi))) [some d,some e] s=.ok (.lst xs) s->zD [d,e] s=.ok (.int (nst r v)) s:=λd e xs hx hz=>by
  have st:zE ["rule","lot"] [d,e]=[some d,some e]:=rfl;simp only[zD,Mof,jm,st,_n,_F,_N];rw[ql,xW,op2 (x:=.int xs.length) (y:=.int 1) (by rw[wx (x:=.lst xs) hz];rfl) rfl,z6B,show (xs.length:Int)-1=(nst r v:Int) by omega];rfl
 exact key _ _ _ (by simpa using ll) fz
abbrev pr(v:List Int)(r:Rl):Int×Str:=((nst r v:Int),nmR r)
abbrev pS(v:List Int)(r:Rl):D:=.tup [.int (nst r v),.str (nmR r)]
theorem zf5{a b c:Int×Str}(h1:xi a b=true)(h2:xi b c=true):xi a c=true:=by
 unfold xi at *;by_cases e1:a.1=b.1
 ·rw[_f e1]at h1;by_cases e2:b.1=c.1
  ·rw[_f e2]at h2;rw[_f (e1.trans e2)];split at h1;·cases h1
   ·split at h2;·cases h2
    ·simp only[_aC]at h1 h2;have t:=List.lt_trans h1 h2;rw[_i (λz=>by rw[z]at t;exact List.lt_irrefl _ t)];simpa using t
  ·rw[_i e2]at h2;rw[_i (by omega),e1];exact h2
 ·rw[_i e1]at h1;simp only[_aC]at h1;by_cases e2:b.1=c.1
  ·rw[_i (by omega),<- e2];simpa using h1
  ·rw[_i e2]at h2;simp only[_aC]at h2;rw[_i (by omega)];simp only[_aC];omega
theorem z6Q(v:List Int){a b:Rl}(h:a≠b):xi (pr v b) (pr v a)=!xi (pr v a) (pr v b):=by
 have key:∀(x y:Int)(a b:Rl),a≠b->xi (y,nmR b) (x,nmR a)=!xi (x,nmR a) (y,nmR b):=λx y a b h=>by
  have c:(if nmR b=nmR a then false else decide ((nmR b).cps.toList<(nmR a).cps.toList))=!(if nmR a=nmR b then false else decide ((nmR a).cps.toList<(nmR b).cps.toList)):=by
   revert h;cases a<;>cases b<;>decide +kernel
  simp only[xi];by_cases e:x=y;·rw[_f e,_f e.symm,c]
  ·rw[_i e,_i (_a4 e)];by_cases q:x<y;·simp[q];omega
   ·simp[q];omega
 exact key _ _ a b h
theorem z6L(v:List Int):∀L:List Rl,vY (L.map (pS v))=some (L.map (pr v))
 | []=>rfl | r::L=>by simp only[_j,pS,vY,z6L v L,_H]
theorem z71 (v:List Int) {L:List Rl} (nd:L.Nodup) (h2:2<=L.length) (h64:L.length<64) (s:Sto):∃G:List Rl,z1P [.lst (L.map (pS v))] s=.ok (.lst (G.map (pS v))) s/\G.Pairwise (λa b=>xi (pr v a) (pr v b)=true)/\G.Perm L:=by
 have gd:∀i,i<L.length->(L.map (pr v)).getD i (0,"")=pr v (L.getD i .nx):=λi hi=>by simp[_k,hi]
 obtain⟨p,e,pm,pw⟩:=z6G (N:=L.length) (lt:=λi j=>xi ((L.map (pr v)).getD i (0,"")) ((L.map (pr v)).getD j (0,""))) (λi j hi hj hij=>by
  rw[gd i hi,gd j hj];refine z6Q v λz=>hij ?_;simp only[_k,_e hi,_e hj,_au]at z;exact (_aL nd).mp z) (λi j k=>zf5) (by omega);have mem:∀i,i∈p.toList->i<L.length:=λi hi=>by rw[pm.mem_iff,_Q]at hi;exact hi
 refine⟨p.toList.map λi=>L.getD i .nx,?_,?_,?_⟩
 ·simp only[z1P,Dd.listOf,z6L,_w];rw[_f ⟨h2,h64⟩,e];simp only;rw[_f ⟨by rw[_V];intro i hi;simpa using mem i hi,by have:=pm.length_eq;simpa using this⟩,_ai];congr 2;refine _ay λi hi=>?_;simp[_k,mem i hi]
 ·rw[_aZ];refine pw.imp_of_mem λ{i j} hi hj q=>?_;rw[gd i (mem i hi),gd j (mem j hj)]at q;exact q
 ·have:=pm.map (λi=>L.getD i .nx);have er:(List.range L.length).map (λi=>L.getD i .nx)=L:=by
   apply _a7;·simp
   ·intro i h1 h2;simp[_k,h2]
  rwa [er]at this
theorem zfD{v:List Int}{G G':List Rl}(p:G.Perm G')(h:G.Pairwise (λa b=>xi (pr v a) (pr v b)=true))(h':G'.Pairwise (λa b=>xi (pr v a) (pr v b)=true)):G=G':=by
 refine List.Perm.eq_of_pairwise (λa b _ _ h1 h2=>?_) h h' p;refine _O λz=>?_;have:=z6Q v z;rw[h1,h2]at this;cases this
def zim:List Rl:=[.nx,.le,.al,.tu]
theorem zcL:zim.Perm rls:=by decide +kernel
theorem zjh:xg.map Prod.fst=zim.map nmR:=by decide +kernel
abbrev qS(v:List Int)(r:Rl):D:=.tup [.str (nmR r),.int (nst r v)]
theorem zjA {n:Nat} {v:List Int} (h:LotB n 104 v) (s:Sto):∃G:List Rl,G.Pairwise (λa b=>xi (pr v a) (pr v b)=true)/\G.Perm zim/\wf [rD v] s=.ok (.lst (G.map (qS v))) s:=by
 obtain⟨G,e,pw,pm⟩:=z71 v (L:=zim) (by decide) (by decide) (by decide) s;refine⟨G,pw,pm,?_⟩;have gl:G.length=4:=pm.length_eq;have key:∀d:D,(∀r,zD [.str (nmR r),d] s=.ok (.int (nst r v)) s)->wf [d] s=.ok (.lst (G.map (qS v))) s:=λd hm=>by
  have c:=comp_map (s:=s) (ρ:=[some d,none]) (fi:=z94 (xg.map Prod.fst)) (mp:=[some 0,none]) (fg:=wH 1) (fe:=kC (za (zd zD (za (zc 1) (za (zc 0) zi))) (za (zc 1) zi))) (λr=>D.str (nmR r)) (pS v) (λr=>[some d,some (.str (nmR r))]) zim (by rw[zed,zjh,_ai];rfl) (λr _=>rfl) (λr _=>by
    rw[vP,zo,call2 (x:=.str (nmR r)) (y:=d) (vr rfl) (vr rfl),hm r,Rb,zo,vr (d:=.str (nmR r)) rfl,Rb,zI];simp[cap]) (by decide);have st:zE ["lot","found"] [d]=[some d,none]:=rfl;have f1:uF [some d,none] s=.ok (.nx [some d,some (.lst (G.map (pS v)))]) s:=by
   rw[uF,yw,wx c,e];rfl
  have c2:=comp_map (s:=s) (ρ:=[some d,some (.lst (G.map (pS v)))]) (fi:=yG (zc 1)) (mp:=[none,none]) (fg:=xI 0 1) (fe:=kC (za (zc 1) (za (zc 0) zi))) (pS v) (qS v) (λr=>[some (.int (nst r v)),some (.str (nmR r))]) G (xc (vr rfl)) (λr _=>rfl) (λr _=>by
    rw[vP,zo,vr (d:=.str (nmR r)) rfl,Rb,zo,vr (d:=.int (nst r v)) rfl,Rb,zI];simp[cap]) (by unfold cap;omega);have f2:uG [some d,some (.lst (G.map (pS v)))] s=.ok (.rt (.lst (G.map (qS v)))) s:=by
   rw[uG,xW,c2];rfl
  simp only[wf,Mof,z0R,st,_n,_F,_N];rw[zk f1,f2]
 exact key _ λr=>m_many r h s
def cp:List (List Int)->List (List Int)->Nat
 | a::A,b::B=>if yP a=yP b then cp A B+1 else 0 | _,_=>0
theorem zaT:∀A:List (List Int),cp A A=A.length
 | []=>rfl | a::A=>by rw[cp,_f rfl,zaT A];rfl
theorem zb6:∀A B:List (List Int),cp A B=cp B A
 | [],[]=>rfl | [],b::B=>rfl | a::A,[]=>rfl | a::A,b::B=>by
  simp only[cp,zb6 A B];by_cases e:yP a=yP b;·rw[_f e,_f e.symm]
  ·rw[_i e,_i (_a4 e)]
theorem zag:∀A B:List (List Int),(A.take (cp A B)).map yP=(B.take (cp A B)).map yP
 | [],[]=>rfl | [],b::B=>rfl | a::A,[]=>rfl | a::A,b::B=>by
  rw[cp];by_cases e:yP a=yP b;·rw[_f e,_cO,_cO,_j,_j,zag A B,e]
  ·rw[_i e];rfl
theorem zhD:∀A B:List (List Int),cp A B<=A.length/\cp A B<=B.length
 | [],[]=>⟨_h _,_h _⟩ | [],b::B=>⟨_h _,_Y _⟩ | a::A,[]=>⟨_Y _,_h _⟩ | a::A,b::B=>by
  have:=zhD A B;simp only[cp,_n];split<;>omega
theorem z7w(A:List (List Int))(k:Nat):A.drop (A.length-k)=(A.reverse.take k).reverse:=by rw[List.take_reverse,List.reverse_reverse]
theorem ziv(A B:List (List Int)):(A.drop (A.length-cp A.reverse B.reverse)).map yP=(B.drop (B.length-cp A.reverse B.reverse)).map yP:=by rw[z7w,z7w,List.map_reverse,List.map_reverse,zag]
theorem zdg:∀{v:List Int},nz v=[]->v=List.replicate v.length 0
 | [],_=>rfl | x::v,h=>by
  unfold nz at h;rw[_dD]at h;by_cases e:x=0
  ·rw[_i (by simp[e])]at h;rw[_n,_ag,<- zdg (v:=v) h,e]
  ·rw[_f (by simpa using e)]at h;cases h
theorem z3u:∀{v:List Int},(nz v).length=1->v.Perm (List.replicate (v.length-1) 0++[v.sum])
 | [],h=>by cases h | x::v,h=>by
  unfold nz at h;rw[_dD]at h;by_cases e:x=0
  ·rw[_i (by simp[e])]at h;have ih:=z3u (v:=v) h;subst e;cases v with
   | nil=>cases h | cons y w=>
    have:=ih.cons 0;simpa[_ag] using this
  ·rw[_f (by simpa using e),_n]at h;have z:=zdg (v:=v) (_cG (by unfold nz;omega));rw[z];have sm:(List.replicate v.length (0:Int)).sum=0:=by simp
   rw[List.sum_cons,sm,Int.add_zero,_n,_cg,Nat.add_sub_cancel];exact (List.perm_append_singleton x _).symm
theorem z9c{n:Nat}{a b:List Int}(ha:Lot n a)(hb:Lot n b)(ea:ended a=true)(eb:ended b=true)(g:z5h a=z5h b):yP a=yP b:=by
 have pa:=z3u (v:=a) (by simpa[ended] using ea);have pb:=z3u (v:=b) (by simpa[ended] using eb);rw[z52 ha ea,ha.len,g,<- z52 hb eb]at pa;rw[hb.len]at pb;exact z7t ((kh a).trans (pa.trans pb.symm)) (z6I a)
theorem last_run{n m:Nat}{r:Rl}{v:List Int}{A:List (List Int)}(h:LotB n m v)(RA:Run r v A):∃z L,A.reverse=z::L/\ended z=true/\Lot n z/\z5h z=z5h v:=by
 obtain⟨z,h1,h2,h3,h4,_⟩:=RA.whole (B:=2 ^ m) h.toLot λy hy=>Int.le_of_lt (h.bd y hy);rw[List.getLast?_eq_head?_reverse]at h1;cases e:A.reverse with
 | nil=>rw[e]at h1;cases h1 | cons y L=>
  rw[e]at h1;simp only[List.head?_cons,_u]at h1;subst h1;exact⟨y,L,rfl,h2,h3,h4⟩
theorem zik{n m:Nat}{r q:Rl}{v:List Int}{A B:List (List Int)}(h:LotB n m v)(RA:Run r v A)(RB:Run q v B):1<=cp A.reverse B.reverse:=by
 obtain⟨x,L,e1,x1,x2,x3⟩:=last_run h RA;obtain⟨y,M,e2,y1,y2,y3⟩:=last_run h RB;rw[e1,e2,cp,_f (z9c x2 y2 x1 y1 (x3.trans y3.symm))];omega
theorem zdp:∀v:List Int,z4b (iL v)=some v
 | []=>rfl | x::v=>by
  have:=zdp v;simp only[iL]at this;simp[z4b,this]
theorem sT{v:List Int}(h:v.length<=4)(s:Sto):vS [rD v] s=.ok (.lst (iL (yP v))) s:=by
 simp only[vS,zdp];rw[_f (by omega)]
theorem z60(k:Nat)(a:List Int):okD (k+1) (.lst (iL a))=true:=z9i k a
theorem zhj(a b:List Int)(s:Sto):dNe (.lst (iL a)) (.lst (iL b)) s=.ok (.bl (!decide (a=b))) s:=by
 have e:eqD (.lst (iL a)) (.lst (iL b))=decide (a=b):=by
  have:=z3w a b;simp only[eqD,xl,PyData.eqv,this]
 rw[dNe,_f ⟨z6r (k:=1) (z60 0 a) (by decide),z6r (k:=1) (z60 0 b) (by decide)⟩,e]
abbrev zeC:D->Ev->Sto->R Fl:=λd ρ s=>(xI 4 5 d ρ s).bind fun ρ' s'=>(zA zV yE) ρ' s'
theorem z9S {all:List D} {s:Sto} {a0 a1 a2:Option D}:∀(A B:List (List Int)) (k:Int) (a4 a5:Option D),(∀a∈A,a.length<=4)->(∀b∈B,b.length<=4)-> ∃b4 b5,wE [] all zeC (z1e (A.map rD) (B.map rD)) [a0,a1,a2,some (.int k),a4,a5] s=.ok (.nx [a0,a1,a2,some (.int (k+(cp A B:Int))),b4,b5]) s
 | [],B,k,a4,a5,_,_=>⟨a4,a5,by simp[z1e,wE,okG,cp]⟩ | a::A,[],k,a4,a5,_,_=>⟨a4,a5,by simp[z1e,wE,okG,cp]⟩ | a::A,b::B,k,a4,a5,hA,hB=>by
  have og:okG [] all s:=by intro p hp;simp at hp
  have sa:=sT (hA a (.head _)) s;have sb:=sT (hB b (.head _)) s;have ne:=zhj (yP a) (yP b) s;obtain⟨b4,b5,ih⟩:=z9S (all:=all) (s:=s) (a0:=a0) (a1:=a1) (a2:=a2) A B (k+1) (some (rD a)) (some (rD b)) (λx hx=>hA x (.tail _ hx)) (λx hx=>hB x (.tail _ hx));have tst:tOf (eOp dNe (zd vS (za (zc 4) zi)) (zd vS (za (zc 5) zi))) [a0,a1,a2,some (.int k),some (rD a),some (rD b)] s=.ok (!decide (yP a=yP b)) s:=wA (by
   generalize rD a=x at *;generalize rD b=y at *;rw[op2 (x:=.lst (iL (yP a))) (y:=.lst (iL (yP b))) (by rw[wx (x:=x) (vr rfl),sa]) (by rw[wx (x:=y) (vr rfl),sb]),ne]);by_cases e:yP a=yP b
  ·refine⟨b4,b5,?_⟩;have f5:zV [a0,a1,a2,some (.int k),some (rD a),some (rD b)] s=.ok (.nx [a0,a1,a2,some (.int k),some (rD a),some (rD b)]) s:=by
    rw[zV,z81 (by rw[tst];simp[e])];rfl
   have f7:yE [a0,a1,a2,some (.int k),some (rD a),some (rD b)] s=.ok (.nx [a0,a1,a2,some (.int (k+1)),some (rD a),some (rD b)]) s:=by
    rw[yE,zhl (a:=k) (b:=1) (s1:=s) rfl rfl];rfl
   rw[cp,_f e,show k+((cp A B+1:Nat):Int)=k+1+(cp A B:Int) by omega,_j,_j,z1e,wE,_f og];rw[show zeC (.tup [rD a,rD b]) [a0,a1,a2,some (.int k),a4,a5] s=(zA zV yE) [a0,a1,a2,some (.int k),some (rD a),some (rD b)] s from rfl,zk f5,f7,Rb];exact ih
  ·refine⟨some (rD a),some (rD b),?_⟩;have f5:zV [a0,a1,a2,some (.int k),some (rD a),some (rD b)] s=.ok (.bk [a0,a1,a2,some (.int k),some (rD a),some (rD b)]) s:=by
    rw[zV,zhx (by rw[tst];simp[e])];rfl
   rw[cp,_i e,_j,_j,z1e,wE,_f og];rw[show zeC (.tup [rD a,rD b]) [a0,a1,a2,some (.int k),a4,a5] s=(zA zV yE) [a0,a1,a2,some (.int k),some (rD a),some (rD b)] s from rfl,zd8,f5];simp
theorem zhH{ls:List (List Int)}{f:FE}{ρ:Ev}{s s1:Sto}{d:D}(hf:f ρ s=.ok d s1)(hd:Dd.listOf s1 d=some (ls.map rD)):z4F f ρ s=.ok (.lst (ls.reverse.map rD)) s1:=by
 rw[z8T,hf,Rb,hd];simp
theorem zjs {n:Nat} {v:List Int} {r q:Rl} {A B:List (List Int)} (h:LotB n 104 v) (RA:Run r v A) (RB:Run q v B) (hA:A.length<=50000) (hB:B.length<=50000) (s:Sto):yo [.str (nmR r),.str (nmR q),rD v] s=.ok (.int (cp A.reverse B.reverse)) s:=by
 have n4:=h.toLot.le4;have lA:=z0e h RA;have lB:=z0e h RB;have ln:=h.toLot.len;obtain⟨b4,b5,lp⟩:=z9S (all:=z1e (A.reverse.map rD) (B.reverse.map rD)) (s:=s) (a0:=some (.str (nmR r))) (a1:=some (.str (nmR q))) (a2:=some (rD v)) A.reverse B.reverse 0 none none (λa ha=>by have:=lA a (_cv.mp ha);omega) (λb hb=>by have:=lB b (_cv.mp hb);omega);rw[Int.zero_add]at lp;have w1:=vA r s;have w2:=vA q s;have i1:=zhH (ls:=A) (um (f:=zc 0) (g:=zc 2) (ρ:=[some (.str (nmR r)),some (.str (nmR q)),some (rD v),some (.int 0),none,none]) (s:=s) h (by decide) RA hA rfl rfl) rfl;have i2:=zhH (ls:=B) (um (f:=zc 1) (g:=zc 2) (ρ:=[some (.str (nmR r)),some (.str (nmR q)),some (rD v),some (.int 0),none,none]) (s:=s) h (by decide) RB hB rfl rfl) rfl;have f4:xK [some (.str (nmR r)),some (.str (nmR q)),some (rD v),some (.int 0),none,none] s=.ok (.nx [some (.str (nmR r)),some (.str (nmR q)),some (rD v),some (.int (cp A.reverse B.reverse)),b4,b5]) s:=by
  rw[xK,z1a,z9v,zo,i1,Rb,zo,i2,Rb,zI];exact lp
 have key:∀(d e f:D),zJ [d] s=.ok .non s->zJ [e] s=.ok .non s->xK [some d,some e,some f,some (.int 0),none,none] s=.ok (.nx [some d,some e,some f,some (.int (cp A.reverse B.reverse)),b4,b5]) s->yo [d,e,f] s=.ok (.int (cp A.reverse B.reverse)) s:=λd e f h1 h2 h3=>by
  have st:zE ["one","other","lot","many","left","right"] [d,e,f]=[some d,some e,some f,none,none,none]:=rfl;simp only[yo,Mof,jn,st,_n,_F,_N];rw[zk (ρ':=[some d,some e,some f,none,none,none]) (s':=s) (by rw[qr,uz,wx (x:=d) (vr rfl),h1];rfl)];rw[zk (ρ':=[some d,some e,some f,none,none,none]) (s':=s) (by rw[qk,uz,wx (x:=e) (vr rfl),h2];rfl)];rw[zk (ρ':=[some d,some e,some f,some (.int 0),none,none]) (s':=s) rfl,zk h3];rfl
 exact key _ _ _ w1 w2 f4
theorem zhi(r:Rl):PyData.strOk (nmR r)=true:=by cases r<;>decide +kernel
theorem zc4(G:List Rl):okD 1 (.lst (G.map λr=>D.str (nmR r)))=true:=by
 show (G.map λr=>D.str (nmR r)).all (okD 0)=true;rw[_V];intro x hx;obtain⟨r,_,rfl⟩:=_A.mp hx;exact zhi r
theorem zkq(v:List Int)(G:List Rl):okD 2 (.lst (G.map (pS v)))=true:=by
 show (G.map (pS v)).all (okD 1)=true;rw[_V];intro x hx;obtain⟨r,_,rfl⟩:=_A.mp hx;show ([D.int (nst r v),.str (nmR r)]:List D).all (okD 0)=true;simp[okD,zhi r]
theorem z9j:∀G:List Rl,z4e (G.map λr=>D.str (nmR r))=some (G.map nmR)
 | []=>rfl | r::G=>by simp only[_j,z4e,z9j G,_H]
theorem sX{G:List Rl}(pm:G.Perm rls)(s:Sto):z4t [.lst (G.map λr=>D.str (nmR r))] s=.ok (.lst (rls.map λr=>D.str (nmR r))) s:=by
 have gl:G.length=4:=pm.length_eq;have e:jR ltX (G.map nmR)=rls.map nmR:=jp zbc (pm.symm.map nmR) (by decide +kernel);simp only[z4t,Dd.listOf,z9j,_w,gl,e,_ai];rfl
abbrev Sh(sc:D)(a1 a2 a3 a4 a5 a6 a7 a8 a9 a10 a11 a12 a13 a14 a15 a16 a17:Option D):Ev:=[some sc,a1,a2,a3,a4,a5,a6,a7,a8,a9,a10,a11,a12,a13,a14,a15,a16,a17]
section
variable {sc:D}{a1 a2 a3 a4 a5 a6 a7 a8 a9 a10 a11 a12 a13 a14 a15 a16 a17:Option D}{n:Nat}{v:List Int}{r q:Rl}{G:List Rl}
theorem zl8 (h:LotB n 104 v) (s:Sto):∃G:List Rl,G.Perm rls/\∀g:FS,(zA kf (zA jU (zA jX g))) (Sh sc a1 a2 (some (rD v)) a4 a5 a6 a7 a8 a9 a10 a11 a12 a13 a14 a15 a16 a17) s=g (Sh sc a1 a2 (some (rD v)) (some (.lst (G.map (qS v)))) (some (.lst (G.map (pS v)))) a6 a7 a8 a9 a10 a11 a12 a13 a14 a15 a16 a17) s:=by
 obtain⟨G,pw,pm0,e⟩:=zjA h s;have pm:=pm0.trans zcL;have gl:G.length=4:=pm.length_eq;have nd:G.Nodup:=pm.nodup_iff.mpr (by decide);obtain⟨G',e2,pw2,pm2⟩:=z71 v nd (by omega) (by omega) s;have eG:G'=G:=zfD pm2 pw2 pw;subst eG;refine⟨G',pm,λg=>?_⟩;have g4:kf (Sh sc a1 a2 (some (rD v)) a4 a5 a6 a7 a8 a9 a10 a11 a12 a13 a14 a15 a16 a17) s=.ok (.nx (Sh sc a1 a2 (some (rD v)) (some (.lst (G'.map (qS v)))) a5 a6 a7 a8 a9 a10 a11 a12 a13 a14 a15 a16 a17)) s:=by rw[kf,yw,wx (x:=rD v) (vr rfl),e];rfl
 have c5:=comp_map (s:=s) (ρ:=Sh sc a1 a2 (some (rD v)) (some (.lst (G'.map (qS v)))) a5 a6 a7 a8 a9 a10 a11 a12 a13 a14 a15 a16 a17) (fi:=yG (zc 4)) (mp:=[none,none]) (fg:=xI 0 1) (fe:=kC (za (zc 1) (za (zc 0) zi))) (qS v) (pS v) (λr=>[some (.str (nmR r)),some (.int (nst r v))]) G' (xc (vr rfl)) (λr _=>rfl) (λr _=>by
    rw[vP,zo,vr (d:=.int (nst r v)) rfl,Rb,zo,vr (d:=.str (nmR r)) rfl,Rb,zI];simp[cap]) (by unfold cap;omega);have g5:jU (Sh sc a1 a2 (some (rD v)) (some (.lst (G'.map (qS v)))) a5 a6 a7 a8 a9 a10 a11 a12 a13 a14 a15 a16 a17) s=.ok (.nx (Sh sc a1 a2 (some (rD v)) (some (.lst (G'.map (qS v)))) (some (.lst (G'.map (pS v)))) a6 a7 a8 a9 a10 a11 a12 a13 a14 a15 a16 a17)) s:=by rw[jU,yw,c5];rfl
 have c6:=comp_map (s:=s) (ρ:=Sh sc a1 a2 (some (rD v)) (some (.lst (G'.map (qS v)))) (some (.lst (G'.map (pS v)))) a6 a7 a8 a9 a10 a11 a12 a13 a14 a15 a16 a17) (fi:=yG (zc 4)) (mp:=[none,none]) (fg:=xI 0 1) (fe:=zc 0) (qS v) (λr=>D.str (nmR r)) (λr=>[some (.str (nmR r)),some (.int (nst r v))]) G' (xc (vr rfl)) (λr _=>rfl) (λr _=>vr rfl) (by unfold cap;omega);have lr:=z6H s;have n1:=ne_self (zc4 rls) (by decide) s;have n2:=ne_self (zkq v G') (by decide) s;have sx:=sX pm s;have g6:jX (Sh sc a1 a2 (some (rD v)) (some (.lst (G'.map (qS v)))) (some (.lst (G'.map (pS v)))) a6 a7 a8 a9 a10 a11 a12 a13 a14 a15 a16 a17) s=.ok (.nx (Sh sc a1 a2 (some (rD v)) (some (.lst (G'.map (qS v)))) (some (.lst (G'.map (pS v)))) a6 a7 a8 a9 a10 a11 a12 a13 a14 a15 a16 a17)) s:=by
  rw[jX,z81 (z6e (wA (by rw[op2 (x:=.lst (rls.map λr=>D.str (nmR r))) (y:=.lst (rls.map λr=>D.str (nmR r))) (by rw[wx c6,sx]) (by rw[yI,zI,Rb,lr]),n1])) (wA (by rw[op2 (x:=.lst (G'.map (pS v))) (y:=.lst (G'.map (pS v))) (vr rfl) (by rw[wx (x:=.lst (G'.map (pS v))) (vr rfl),e2]),n2])))];rfl
 rw[zk g4,zk g5,zk g6]
abbrev zg6:D->Ev->Sto->R Fl:=λd ρ s=>(xI 6 7 d ρ s).bind fun ρ' s'=>(zA z0y (zA js (zA jM jD))) ρ' s'
theorem z80{a b:Int}(h:a=b)(s:Sto):dNe (.int a) (.int b) s=.ok (.bl false) s:=by rw[zhb];simp[h]
theorem zhR (h:LotB n 104 v) (s:Sto):zg6 (qS v r) (Sh sc a1 a2 (some (rD v)) a4 a5 a6 a7 a8 a9 a10 a11 a12 a13 a14 a15 a16 a17) s=.ok (.nx (Sh sc a1 a2 (some (rD v)) a4 a5 (some (.str (nmR r))) (some (.int (nst r v))) a8 a9 a10 a11 a12 a13 a14 a15 a16 a17)) s:=by
 obtain⟨A,RA,hA⟩:=z7g r h;have ll:=z9X RA h.toLot;have mm:=m_many r h s;have mt:=z5E r h RA (by decide) hA s;have tl:((vR r A).map tD).length=nst r v:=by simp[vR];omega
 have ce:=zjs h RA RA hA hA s;rw[zaT,_cR,ll]at ce;have he:=vq h.toLot s;have lA:(A.map rD).length=nst r v+1:=by simpa using ll
 have nx:ended v=false->M_step [.str (nmR r),rD v] s=.ok (rD (stp r v)) s/\zD [.str (nmR r),rD (stp r v)] s=.ok (.int ((nst r v:Int)-1)) s:=λe=>by
  refine⟨z9R r h e (by decide) s,?_⟩;rw[m_many r (h.step r e) s,z2b h.toLot e,show ((nst r (stp r v)+1:Nat):Int)-1=((nst r (stp r v):Nat):Int) by omega]
 have fz:=um (f:=zc 6) (g:=zc 3) (ρ:=Sh sc a1 a2 (some (rD v)) a4 a5 (some (.str (nmR r))) (some (.int (nst r v))) a8 a9 a10 a11 a12 a13 a14 a15 a16 a17) (s:=s) h (by decide) RA hA rfl rfl;rw[show zg6 (qS v r) (Sh sc a1 a2 (some (rD v)) a4 a5 a6 a7 a8 a9 a10 a11 a12 a13 a14 a15 a16 a17) s=(zA z0y (zA js (zA jM jD))) (Sh sc a1 a2 (some (rD v)) a4 a5 (some (.str (nmR r))) (some (.int (nst r v))) a8 a9 a10 a11 a12 a13 a14 a15 a16 a17) s from rfl];generalize (vR r A).map tD=T at *;generalize A.map rD=Yy at *;generalize hk:nst r v=k at *;generalize hx:rD v=x at *;generalize hy:rD (stp r v)=y at *;generalize nmR r=w at *;have g9:z0y (Sh sc a1 a2 (some x) a4 a5 (some (.str w)) (some (.int k)) a8 a9 a10 a11 a12 a13 a14 a15 a16 a17) s=.ok (.nx (Sh sc a1 a2 (some x) a4 a5 (some (.str w)) (some (.int k)) a8 a9 a10 a11 a12 a13 a14 a15 a16 a17)) s:=by
  rw[z0y,z81 (z6e (wA (by rw[op2 (x:=.int k) (y:=.int k) (vr rfl) (by rw[call2 (x:=.str w) (y:=x) (vr rfl) (vr rfl),mm]),z80 rfl])) (wA (by rw[op2 (x:=.int k) (y:=.int T.length) (vr rfl) (by rw[wx (x:=.lst T) (by rw[call2 (x:=.str w) (y:=x) (vr rfl) (vr rfl),mt])];rfl),z80 (by omega)])))];rfl
 have g11:js (Sh sc a1 a2 (some x) a4 a5 (some (.str w)) (some (.int k)) a8 a9 a10 a11 a12 a13 a14 a15 a16 a17) s=.ok (.nx (Sh sc a1 a2 (some x) a4 a5 (some (.str w)) (some (.int k)) a8 a9 a10 a11 a12 a13 a14 a15 a16 a17)) s:=by
  rw[js,z81 (wA (by rw[op2 (x:=.int ((k:Int)+1)) (y:=.int Yy.length) (by rw[op2 (x:=.int k) (y:=.int 1) (vr rfl) rfl,jf]) (by rw[wx (x:=.lst Yy) fz];rfl),z80 (by omega)]))];rfl
 have g13:jM (Sh sc a1 a2 (some x) a4 a5 (some (.str w)) (some (.int k)) a8 a9 a10 a11 a12 a13 a14 a15 a16 a17) s=.ok (.nx (Sh sc a1 a2 (some x) a4 a5 (some (.str w)) (some (.int k)) a8 a9 a10 a11 a12 a13 a14 a15 a16 a17)) s:=by
  rw[jM,z81 (by
   rw[z7A,z7D,wA (b:=ended v) (by rw[wx (x:=x) (vr rfl),he])];cases e:ended v with
   | true=>rfl | false=>
    obtain⟨n1,n2⟩:=nx e;simp only[Rb,_c5,_N];exact wA (by rw[op2 (x:=.int ((k:Int)-1)) (y:=.int ((k:Int)-1)) (by rw[call2 (x:=.str w) (y:=y) (vr rfl) (by rw[call2 (x:=.str w) (y:=x) (vr rfl) (vr rfl),n1]),n2]) (by rw[op2 (x:=.int k) (y:=.int 1) (vr rfl) rfl,z6B]),z80 rfl]))];rfl
 have g15:jD (Sh sc a1 a2 (some x) a4 a5 (some (.str w)) (some (.int k)) a8 a9 a10 a11 a12 a13 a14 a15 a16 a17) s=.ok (.nx (Sh sc a1 a2 (some x) a4 a5 (some (.str w)) (some (.int k)) a8 a9 a10 a11 a12 a13 a14 a15 a16 a17)) s:=by
  rw[jD,z81 (wA (by rw[op2 (x:=.int ((k+1:Nat):Int)) (y:=.int ((k:Int)+1)) (by rw[z65 (x:=.str w) (y:=.str w) (z:=x) (vr rfl) (vr rfl) (vr rfl),ce]) (by rw[op2 (x:=.int k) (y:=.int 1) (vr rfl) rfl,jf]),z80 (by omega)]))];rfl
 rw[zk g9,zk g11,zk g13,g15]
theorem f8 (h:LotB n 104 v) (s:Sto):∃b6 b7,z0B (Sh sc a1 a2 (some (rD v)) (some (.lst (G.map (qS v)))) a5 a6 a7 a8 a9 a10 a11 a12 a13 a14 a15 a16 a17) s=.ok (.nx (Sh sc a1 a2 (some (rD v)) (some (.lst (G.map (qS v)))) a5 b6 b7 a8 a9 a10 a11 a12 a13 a14 a15 a16 a17)) s:=by
 obtain⟨ρ',S',lp,b6,b7,rfl,rfl⟩:=z30 (all:=G.map (qS v)) (body:=zg6) (fun ρ S=>∃x6 x7,ρ=Sh sc a1 a2 (some (rD v)) (some (.lst (G.map (qS v)))) a5 x6 x7 a8 a9 a10 a11 a12 a13 a14 a15 a16 a17/\S=s) (G.map (qS v)) (λx hx ρ S hI=>by
  obtain⟨x6,x7,rfl,rfl⟩:=hI;obtain⟨r,_,rfl⟩:=_A.mp hx;exact⟨_,_,zhR h S,_,_,rfl,rfl⟩) (Sh sc a1 a2 (some (rD v)) (some (.lst (G.map (qS v)))) a5 a6 a7 a8 a9 a10 a11 a12 a13 a14 a15 a16 a17) s ⟨_,_,rfl,rfl⟩;refine⟨b6,b7,?_⟩;unfold z0B;rw[z1a,xc (vr rfl),Rb];exact lp
end
section
variable {sc:D}{a1 a2 a3 a4 a5 a6 a7 a8 a9 a10 a11 a12 a13 a14 a15 a16 a17:Option D}{n:Nat}{v:List Int}{r q:Rl}
theorem zdN{A:List (List Int)}{k:Nat}(h1:1<=k)(h2:k<=A.length)(s:Sto):dSl (.lst (A.map rD)) (some (0-(k:Int))) none s=.ok (.lst ((A.drop (A.length-k)).map rD)) s:=by
 have e1:HT.sIx (A.map rD).length 0 (some (0-(k:Int)))=A.length-k:=by
  simp only[HT.sIx,_w];rw[_f (by omega)];omega
 have e2:HT.sIx (A.map rD).length (A.map rD).length none=A.length:=by simp[HT.sIx]
 show R.ok (D.lst (Dd.cutD (A.map rD) _ _)) s=_;rw[Dd.cutD,e1,e2,<- _bP,<- _cy,_b9 (by simp)]
theorem zft(L:List (List Int)):okD 2 (.lst (L.map λa=>D.lst (iL a)))=true:=by
 show (L.map λa=>D.lst (iL a)).all (okD 1)=true;rw[_V];intro x hx;obtain⟨a,_,rfl⟩:=_A.mp hx;exact z60 0 a
abbrev S9(sc:D)(a1 a2:Option D)(v:List Int)(a4 a5 a6 a7:Option D)(r q:Rl)(a10 a11 a12 a13 a14 a15 a16 a17:Option D):Ev:=Sh sc a1 a2 (some (rD v)) a4 a5 a6 a7 (some (.str (nmR r))) (some (.str (nmR q))) a10 a11 a12 a13 a14 a15 a16 a17
theorem zje (h:LotB n 104 v) (s:Sto):∃b10 b11 b12,∀g:FS,(zA uL (zA uP (zA uS (zA uQ g)))) (S9 sc a1 a2 v a4 a5 a6 a7 r q a10 a11 a12 a13 a14 a15 a16 a17) s=g (S9 sc a1 a2 v a4 a5 a6 a7 r q b10 b11 b12 a13 a14 a15 a16 a17) s:=by
 obtain⟨A,RA,hA⟩:=z7g r h;obtain⟨B,RB,hB⟩:=z7g q h;have n4:=h.toLot.le4;have ln:=h.toLot.len;have lA:=z0e h RA;have lB:=z0e h RB;have ce:=zjs h RA RB hA hB s;have ce2:=zjs h RB RA hB hA s;rw[zb6]at ce2;have pos:=zik h RA RB;have le:=zhD A.reverse B.reverse;rw[_cR,_cR]at le;have en:=ziv A B;generalize hk:cp A.reverse B.reverse=k at *;have s1:=zdN (A:=A) pos le.1 s;have s2:=zdN (A:=B) pos le.2 s;have mA:∀a∈A.drop (A.length-k),a.length<=4:=λa ha=>by have:=lA a (List.mem_of_mem_drop ha);omega
 have mB:∀a∈B.drop (B.length-k),a.length<=4:=λa ha=>by have:=lB a (List.mem_of_mem_drop ha);omega
 have lk:(A.drop (A.length-k)).length<=50000:=by rw[_bH];omega
 have lk2:(B.drop (B.length-k)).length<=50000:=by rw[_bH];omega
 have z1:=um (f:=zc 8) (g:=zc 3) (ρ:=S9 sc a1 a2 v a4 a5 a6 a7 r q (some (.int k)) a11 a12 a13 a14 a15 a16 a17) (s:=s) h (by decide) RA hA rfl rfl;have z2:=um (f:=zc 9) (g:=zc 3) (ρ:=S9 sc a1 a2 v a4 a5 a6 a7 r q (some (.int k)) a11 a12 a13 a14 a15 a16 a17) (s:=s) h (by decide) RB hB rfl rfl;generalize A.drop (A.length-k)=P at *;generalize B.drop (B.length-k)=Q at *;refine⟨some (.int k),some (.lst (P.map rD)),some (.lst (Q.map rD)),λg=>?_⟩;have g18:uL (S9 sc a1 a2 v a4 a5 a6 a7 r q a10 a11 a12 a13 a14 a15 a16 a17) s=.ok (.nx (S9 sc a1 a2 v a4 a5 a6 a7 r q (some (.int k)) a11 a12 a13 a14 a15 a16 a17)) s:=by rw[uL,yw,z65 (x:=.str (nmR r)) (y:=.str (nmR q)) (z:=rD v) (vr rfl) (vr rfl) (vr rfl),ce];rfl
 have g19:uP (S9 sc a1 a2 v a4 a5 a6 a7 r q (some (.int k)) a11 a12 a13 a14 a15 a16 a17) s=.ok (.nx (S9 sc a1 a2 v a4 a5 a6 a7 r q (some (.int k)) a11 a12 a13 a14 a15 a16 a17)) s:=by
  rw[uP,z81 (z6e (wA (by rw[op2 (x:=.int k) (y:=.int k) (vr rfl) (by rw[z65 (x:=.str (nmR q)) (y:=.str (nmR r)) (z:=rD v) (vr rfl) (vr rfl) (vr rfl),ce2]),z80 rfl])) (wA (by rw[op2 (x:=.int k) (y:=.int 1) (vr rfl) rfl,zjg,_ab (by omega)])))];rfl
 have g21:uS (S9 sc a1 a2 v a4 a5 a6 a7 r q (some (.int k)) a11 a12 a13 a14 a15 a16 a17) s=.ok (.nx (S9 sc a1 a2 v a4 a5 a6 a7 r q (some (.int k)) (some (.lst (P.map rD))) (some (.lst (Q.map rD))) a13 a14 a15 a16 a17)) s:=by
  have pt:wZ (eOp zbj (eC (.int 0)) (zc 10)) (S9 sc a1 a2 v a4 a5 a6 a7 r q (some (.int k)) a11 a12 a13 a14 a15 a16 a17) s=.ok (some (0-(k:Int))) s:=by rw[qJ,op2 (x:=.int 0) (y:=.int k) rfl (vr rfl),z6B];rfl
  have np:yj (S9 sc a1 a2 v a4 a5 a6 a7 r q (some (.int k)) a11 a12 a13 a14 a15 a16 a17) s=.ok none s:=rfl;rw[uS,zgH,zo,z55,z1,Rb,pt,Rb,np,Rb,s1,Rb,zo,z55,z2,Rb,pt,Rb,np,Rb,s2,Rb,zI];rfl
 have c1:=comp_map (s:=s) (ρ:=S9 sc a1 a2 v a4 a5 a6 a7 r q (some (.int k)) (some (.lst (P.map rD))) (some (.lst (Q.map rD))) a13 a14 a15 a16 a17) (fi:=yG (zc 11)) (mp:=[none]) (fg:=wH 0) (fe:=zd vS (za (zc 0) zi)) rD (λa=>D.lst (iL (yP a))) (λa=>[some (rD a)]) P (xc (vr rfl)) (λa _=>rfl) (λa ha=>by rw[wx (x:=rD a) (vr rfl),sT (mA a ha)]) (by unfold cap;omega);have c2:=comp_map (s:=s) (ρ:=S9 sc a1 a2 v a4 a5 a6 a7 r q (some (.int k)) (some (.lst (P.map rD))) (some (.lst (Q.map rD))) a13 a14 a15 a16 a17) (fi:=yG (zc 12)) (mp:=[none]) (fg:=wH 0) (fe:=zd vS (za (zc 0) zi)) rD (λa=>D.lst (iL (yP a))) (λa=>[some (rD a)]) Q (xc (vr rfl)) (λa _=>rfl) (λa ha=>by rw[wx (x:=rD a) (vr rfl),sT (mB a ha)]) (by unfold cap;omega);have eP:P.map (λa=>D.lst (iL (yP a)))=(P.map yP).map λa=>D.lst (iL a):=by rw[_ai];rfl
 have eQ:Q.map (λa=>D.lst (iL (yP a)))=(P.map yP).map λa=>D.lst (iL a):=by rw[en,_ai];rfl
 rw[eP]at c1;rw[eQ]at c2;have ne:=ne_self (zft (P.map yP)) (by decide) s;have g22:uQ (S9 sc a1 a2 v a4 a5 a6 a7 r q (some (.int k)) (some (.lst (P.map rD))) (some (.lst (Q.map rD))) a13 a14 a15 a16 a17) s=.ok (.nx (S9 sc a1 a2 v a4 a5 a6 a7 r q (some (.int k)) (some (.lst (P.map rD))) (some (.lst (Q.map rD))) a13 a14 a15 a16 a17)) s:=by
  rw[uQ,z81 (wA (by rw[op2 c1 c2,ne]))];rfl
 rw[zk g18,zk g19,zk g21,zk g22]
end
theorem zfR:∀(r:Rl)(n b:Nat),(n=2\/n=3)->1<=b->b<=6->(bst r n b).length<=63:=by
 have key:∀r∈[Rl.nx,.le,.al,.tu],∀n∈[2,3],∀b∈[1,2,3,4,5,6],(bst r n b).length<=63:=by decide +kernel
 intro r n b hn h1 h6;refine key r (by cases r<;>simp) n (by simpa using hn) b ?_;simp only[_p,_bJ,or_false];omega
theorem zcI(r:Rl)(n b:Nat):jR lexN (bst r n b)=bst r n b:=jp xt (List.Perm.refl _) ((z9L r n b).imp λ{a c} h=>by cases q:lexN c a with
 | false=>rfl | true=>have:=xt.tr _ _ _ h q;rw[xt.irr]at this;cases this)
theorem z91(L:List (List Int)):z0g (L.map rD)=some L:=z11 L
theorem z8Q{k:Nat}{d:D}(h:okD k d=true)(hk:k<=10){x y:D}{s:Sto}(hx:see s x=d)(hy:see s y=d):zeP true x y s=.ok (.bl false) s:=by
 have q:=zat k d h;have o:=z6r h hk;rw[zeP,hx,hy,_f ⟨o,o⟩];simp only[eqD,q.2.2];rfl
theorem jo(x:D):∀k:Nat,(List.replicate k [x]).flatten=List.replicate k x
 | 0=>rfl | k+1=>by rw[_ag,_aY,jo x k];rfl
section
variable {sc:D}{a1 a2 a3 a4 a5 a6 a7 a8 a9 a10 a11 a12 a13 a14 a15 a16 a17:Option D}{n b j:Nat}{w:List Int}{r:Rl}
abbrev S17(sc:D)(a1 a2 a3 a4 a5 a6 a7:Option D)(r:Rl)(a9 a10 a11 a12 a13 a14:Option D)(m:Int)(j:Nat)(w:List Int):Ev:=Sh sc a1 a2 a3 a4 a5 a6 a7 (some (.str (nmR r))) a9 a10 a11 a12 a13 a14 (some (.int m)) (some (.loc j)) (some (rD w))
theorem zko(m:Int)(k:Nat):okD 1 (.lst (List.replicate k (D.int m)))=true:=by
 show (List.replicate k (D.int m)).all (okD 0)=true;rw[_V];intro x hx;rw[_aF hx];rfl
theorem f27 (hn:n=2\/n=3) (h1:1<=b) (h6:b<=6) {s:Sto} (hj:s[j]? = some ((bst r n b).map rD)):uN (S17 sc a1 a2 a3 a4 a5 a6 a7 r a9 a10 a11 a12 a13 a14 (mx r n b) j w) s=.ok (.nx (S17 sc a1 a2 a3 a4 a5 a6 a7 r a9 a10 a11 a12 a13 a14 (mx r n b) j w)) s:=by
 have sz:Sz n:=by unfold Sz;omega
 have few:=zfR r n b hn h1 h6;have mn:=zad (r:=r) sz h1;have mem:∀u∈bst r n b,LotB n 104 u/\(nst r u:Int)=mx r n b:=λu hu=>by
  obtain⟨hl,e⟩:=(z6i sz).mp hu;refine⟨⟨hl.lot,λx hx=>?_⟩,by omega⟩;have:=hl.le x hx;have e:(8:Int)<=2 ^ 104:=by decide
  omega
 have c:=z9g (s:=s) (ρ:=S17 sc a1 a2 a3 a4 a5 a6 a7 r a9 a10 a11 a12 a13 a14 (mx r n b) j w) (G:=[(j,(bst r n b).map rD)]) (fi:=yG (zc 16)) (mp:=[some 8,none]) (fg:=wH 1) (fe:=zd zD (za (zc 0) (za (zc 1) zi))) rD (λ_=>D.int (mx r n b)) (λu=>[some (.str (nmR r)),some (rD u)]) (bst r n b) (by rw[z9d,vr (d:=.loc j) rfl,Rb];simp only[hj]) (by intro p hp;simp only[_bd]at hp;subst hp;exact hj) (λu _=>rfl) (λu hu=>by rw[call2 (x:=.str (nmR r)) (y:=rD u) (vr rfl) (vr rfl),m_many r (mem u hu).1 s,(mem u hu).2]) (by unfold cap;omega);rw[List.map_const']at c;have so:=zcI r n b;have nd:=(z9L r n b).nodup;have al:(bst r n b).all (λn=>!n.isEmpty)=true:=by
  rw[_V];intro u hu;have:=(mem u hu).1.toLot.ne;cases u with
  | nil=>exact absurd rfl this | cons x u=>rfl
 have tu:=z91 (bst r n b);have su:eSU (zc 16) (S17 sc a1 a2 a3 a4 a5 a6 a7 r a9 a10 a11 a12 a13 a14 (mx r n b) j w) s=.ok (.lst ((bst r n b).map rD)) s:=by
  show (zc 16 _ s).bind _=_;rw[vr (d:=.loc j) rfl,Rb];have ed:z9Q s (.loc j)=some (bst r n b):=by
   simp only[z9Q,Dd.listOf,hj,tu];rw[_f ⟨al,few,nd⟩,so]
  rw[ed]
 have okr:=ze8 0 (bst r n b);have lb:((bst r n b).map rD).length=(bst r n b).length:=_w _;generalize (bst r n b).length=k at *;generalize (bst r n b).map rD=L at *;generalize mx r n b=m at *;have rp:eOp zgQ (z9n (za (zc 15) zi)) (zd vW (za (zc 16) zi)) (S17 sc a1 a2 a3 a4 a5 a6 a7 r a9 a10 a11 a12 a13 a14 m j w) s=.ok (.lst (List.replicate k (D.int m))) s:=by
  rw[op2 (x:=.lst [.int m]) (y:=.int k) (by rw[z4s,zo,vr (d:=.int m) rfl,Rb,zI];simp[cap]) (by rw[wx (x:=.loc j) (vr rfl)];simp only[vW,zY,hj,lb])];simp only[zgQ,Dd.listOf];rw[_f ⟨by simp[cap];omega,by omega,by omega⟩,_aA,jo]
 have q1:=z8Q (s:=s) (zko m k) (by decide) (x:=.lst (List.replicate k (D.int m))) (y:=.lst (List.replicate k (D.int m))) rfl rfl;have q2:=z8Q (s:=s) okr (by decide) (x:=.loc j) (y:=.lst L) (by simp[see,hj]) rfl;rw[uN,z81 (z6e (wA (by rw[op2 c rp,q1])) (wA (by rw[op2 (x:=.loc j) (vr rfl) su,q2])))];rfl
theorem zkh(hs:Sz n)(hl:w.length=n)(hw:∀x∈w,0<=x/\x<=(b:Int))(hp:0<maxL w):Lt n b w:=by
 have ne:w≠[]:=λz=>by rw[z]at hl;simp at hl;unfold Sz at hs;omega
 exact⟨⟨hs,hl,λx hx=>(hw x hx).1,maxL w,maxL_mem ne,hp⟩,λx hx=>(hw x hx).2⟩
theorem zjI (hn:n=2\/n=3) (h1:1<=b) (h6:b<=6) (hl:w.length=n) (hw:∀x∈w,0<=x/\x<=(b:Int)) {s:Sto} (hj:s[j]? = some ((bst r n b).map rD)):∃b7,(zA vM (zA xX xZ)) (S17 sc a1 a2 a3 a4 a5 a6 a7 r a9 a10 a11 a12 a13 a14 (mx r n b) j w) s=.ok (.nx (S17 sc a1 a2 a3 a4 a5 a6 b7 r a9 a10 a11 a12 a13 a14 (mx r n b) j w)) s:=by
 have sz:Sz n:=by unfold Sz;omega
 have mn:=zad (r:=r) sz h1;have ne:w≠[]:=λz=>by rw[z]at hl;simp at hl;omega
 have gm:∀s:Sto,va [rD w] s=.ok (.int (maxL w)) s:=λs=>z7a s ne;have tu:=z91 (bst r n b);have inn:zgi false (rD w) (.loc j) s=.ok (.bl (decide (w∈bst r n b))) s:=by
  have tw:zdZ (rD w)=some w:=z6w w;simp only[zgi,tw,zY,hj,_J,tu];congr 2;rw[_cM];simp
 have g29:vM (S17 sc a1 a2 a3 a4 a5 a6 a7 r a9 a10 a11 a12 a13 a14 (mx r n b) j w) s=.ok (.nx (S17 sc a1 a2 a3 a4 a5 a6 (some (.int 0)) r a9 a10 a11 a12 a13 a14 (mx r n b) j w)) s:=by rw[vM,yw];rfl
 have tm:∀x7,tOf (eOp dGt (zd va (za (zc 17) zi)) (eC (.int 0))) (S17 sc a1 a2 a3 a4 a5 a6 x7 r a9 a10 a11 a12 a13 a14 (mx r n b) j w) s=.ok (decide (0<maxL w)) s:=λx7=>wA (by rw[op2 (x:=.int (maxL w)) (y:=.int 0) (by rw[wx (x:=rD w) (vr rfl),gm]) rfl,zes]);by_cases hp:0<maxL w
 ·have lt:=zkh sz hl hw hp;have lB:LotB n 104 w:=⟨lt.lot,λx hx=>by
   have:=lt.le x hx;have e:(8:Int)<=2 ^ 104:=by decide
   omega⟩;have mm:=m_many r lB s;have ge:=zeA (r:=r) sz lt;have mb:=z6i (b:=b) (r:=r) sz (v:=w);refine⟨some (.int (nst r w)),?_⟩;have g30:xX (S17 sc a1 a2 a3 a4 a5 a6 (some (.int 0)) r a9 a10 a11 a12 a13 a14 (mx r n b) j w) s=.ok (.nx (S17 sc a1 a2 a3 a4 a5 a6 (some (.int (nst r w))) r a9 a10 a11 a12 a13 a14 (mx r n b) j w)) s:=by rw[xX,zhx (by rw[tm,_bF hp]),z70,yw,call2 (x:=.str (nmR r)) (y:=rD w) (vr rfl) (vr rfl),mm];rfl
  have g32:xZ (S17 sc a1 a2 a3 a4 a5 a6 (some (.int (nst r w))) r a9 a10 a11 a12 a13 a14 (mx r n b) j w) s=.ok (.nx (S17 sc a1 a2 a3 a4 a5 a6 (some (.int (nst r w))) r a9 a10 a11 a12 a13 a14 (mx r n b) j w)) s:=by
   have eq:decide ((nst r w:Int)=mx r n b)=decide (w∈bst r n b):=decide_eq_decide.mpr (by
    rw[mb];constructor;·intro e;exact⟨lt,by omega⟩
    ·intro⟨_,e⟩;omega);rw[xZ,z81 (z6e (wA (by rw[op2 (x:=.int (nst r w)) (y:=.int (mx r n b)) (vr rfl) (vr rfl),zes,_ab (by omega)])) (by
    rw[z7A,tm,_bF hp];simp only[Rb,_N];exact wA (by rw[op2 (x:=.bl (decide (w∈bst r n b))) (y:=.bl (decide (w∈bst r n b))) (by rw[op2 (x:=.int (nst r w)) (y:=.int (mx r n b)) (vr rfl) (vr rfl),zf2,eq]) (by rw[op2 (x:=rD w) (y:=.loc j) (vr rfl) (vr rfl),inn]),zjF,_bj])))];rfl
  rw[zk g29,zk g30,g32]
 ·refine⟨some (.int 0),?_⟩;have g30:xX (S17 sc a1 a2 a3 a4 a5 a6 (some (.int 0)) r a9 a10 a11 a12 a13 a14 (mx r n b) j w) s=.ok (.nx (S17 sc a1 a2 a3 a4 a5 a6 (some (.int 0)) r a9 a10 a11 a12 a13 a14 (mx r n b) j w)) s:=by
   rw[xX,z81 (by rw[tm,_ab hp])];rfl
  have g32:xZ (S17 sc a1 a2 a3 a4 a5 a6 (some (.int 0)) r a9 a10 a11 a12 a13 a14 (mx r n b) j w) s=.ok (.nx (S17 sc a1 a2 a3 a4 a5 a6 (some (.int 0)) r a9 a10 a11 a12 a13 a14 (mx r n b) j w)) s:=by
   rw[xZ,z81 (z6e (wA (by rw[op2 (x:=.int 0) (y:=.int (mx r n b)) (vr rfl) (vr rfl),zes,_ab (by omega)])) (by
    rw[z7A,tm,_ab hp];rfl))];rfl
  rw[zk g29,zk g30,g32]
end
theorem zdX{b:Nat}:∀{ys:List D},(∀y∈ys,∃x:Int,y=.int x/\0<=x/\x<=(b:Int))->∃w:List Int,ys=iL w/\∀x∈w,0<=x/\x<=(b:Int)
 | [],_=>⟨[],rfl,λx hx=>by cases hx⟩ | y::ys,h=>by
  obtain⟨x,rfl,h1,h2⟩:=h y (.head _);obtain⟨w,rfl,hw⟩:=zdX λz hz=>h z (.tail _ hz);refine⟨x::w,rfl,λz hz=>?_⟩;rcases _p.mp hz with rfl | hz;·exact⟨h1,h2⟩
  ·exact hw z hz
section
variable {sc:D}{a1 a2 a3 a4 a5 a6 a7 a8 a9 a10 a11 a12 a13 a14 a15 a16 a17:Option D}{n b l:Nat}{r:Rl}
abbrev S14(sc:D)(a1:Option D)(l:Nat)(a3 a4 a5 a6 a7:Option D)(r:Rl)(a9 a10 a11 a12:Option D)(n b:Nat)(a15 a16 a17:Option D):Ev:=Sh sc a1 (some (.loc l)) a3 a4 a5 a6 a7 (some (.str (nmR r))) a9 a10 a11 a12 (some (.int n)) (some (.int b)) a15 a16 a17
theorem f26 (hn:n=2\/n=3) (h6:b<=6) {s:Sto} (hp:Pot s l):∃w s',vB (S14 sc a1 l a3 a4 a5 a6 a7 r a9 a10 a11 a12 n b a15 a16 a17) s=.ok (.nx (S14 sc a1 l a3 a4 a5 a6 a7 r a9 a10 a11 a12 n b a15 a16 (some (rD w)))) s'/\w.length=n/\(∀x∈w,0<=x/\x<=(b:Int))/\ve s s' l:=by
 obtain⟨ys,s',e,ly,hy,dr⟩:=zeB (fi:=z5g (za (zc 13) zi)) (mp:=[some 2,some 14,none]) (fg:=wH 2) (fe:=zd zh (za (zc 0) (za (eOp wP (zc 1) (eC (.int 1))) zi))) (ρ:=S14 sc a1 l a3 a4 a5 a6 a7 r a9 a10 a11 a12 n b a15 a16 a17) (s:=s) (s0:=s) (λk:Nat=>D.int ((k:Nat):Int)) (λk=>[some (.loc l),some (.int b),some (.int ((k:Nat):Int))]) (λS=>ve s S l) (λy=>∃x:Int,y=.int x/\0<=x/\x<=(b:Int)) (List.range n) (z5n (n:=n) (by omega) (by rw[zo,vr (d:=.int n) rfl,Rb,zI];rfl)) (λk _ s=>rfl) (λk _ S hS=>by
   obtain⟨x,S',e,x0,x1,d⟩:=wD (f:=zc 0) (g:=eOp wP (zc 1) (eC (.int 1))) (far:=(b:Int)+1) (ρ:=[some (.loc l),some (.int b),some (.int k)]) hS.pot (by omega) (qN (by omega)) (vr rfl) (by rw[op2 (x:=.int b) (y:=.int 1) (vr rfl) rfl,jf]);exact⟨.int x,S',e,⟨x,rfl,x0,by omega⟩,⟨d.pot,by rw[d.len,hS.len],λm hm=>by rw[d.oth m hm,hS.oth m hm]⟩⟩) (by simp[cap];omega) ⟨hp,rfl,λ_ _=>rfl⟩;obtain⟨w,rfl,hw⟩:=zdX hy;refine⟨w,s',?_,by simpa using ly,hw,dr⟩;have key:∀ys:List D,zK (z5g (za (zc 13) zi)) [some 2,some 14,none] (wH 2) xJ (zd zh (za (zc 0) (za (eOp wP (zc 1) (eC (.int 1))) zi))) (S14 sc a1 l a3 a4 a5 a6 a7 r a9 a10 a11 a12 n b a15 a16 a17) s=.ok (.lst ys) s'->vB (S14 sc a1 l a3 a4 a5 a6 a7 r a9 a10 a11 a12 n b a15 a16 a17) s=.ok (.nx (S14 sc a1 l a3 a4 a5 a6 a7 r a9 a10 a11 a12 n b a15 a16 (some (.tup ys)))) s':=λys e=>by
  rw[vB,yw,zdc e];rfl
 exact key _ e
end
abbrev zfx:D->Ev->Sto->R Fl:=λd ρ s=>(wH 1 d ρ s).bind fun ρ' s'=>(zA z0i (zA z19 (zA kf (zA jU (zA jX (zA z0B (zA ju (zA uL (zA uP (zA uS (zA uQ (zA uT (zA uR (zA vB (zA uN (zA vM (zA xX xZ))))))))))))))))) ρ' s'
def ShL(ns:List Int)(ρ:Ev):Prop:=∃a1 a2 a3 a4 a5 a6 a7 a8 a9 a10 a11 a12 a13 a14 a15 a16 a17,ρ=Sh (.scr (iL ns)) a1 a2 a3 a4 a5 a6 a7 a8 a9 a10 a11 a12 a13 a14 a15 a16 a17
section
variable {sc:D}{a1 a2 a3 a4 a5 a6 a7 a8 a9 a10 a11 a12 a13 a14 a15 a16 a17:Option D}{n b l:Nat}{r:Rl}
theorem zeV {s:Sto} (hp:Pot s l):∃ ρ' s',(zA uT (zA uR (zA vB (zA uN (zA vM (zA xX xZ)))))) (Sh sc a1 (some (.loc l)) a3 a4 a5 a6 a7 (some (.str (nmR r))) a9 a10 a11 a12 a13 a14 a15 a16 a17) s=.ok (.nx ρ') s'/\∃b7 b13 b14 b15 b16 b17,ρ'=Sh sc a1 (some (.loc l)) a3 a4 a5 a6 b7 (some (.str (nmR r))) a9 a10 a11 a12 b13 b14 b15 b16 b17:=by
 obtain⟨x,s1,e1,x0,x1,d1⟩:=wD (f:=zc 2) (g:=eC (.int 2)) (far:=2) (ρ:=Sh sc a1 (some (.loc l)) a3 a4 a5 a6 a7 (some (.str (nmR r))) a9 a10 a11 a12 a13 a14 a15 a16 a17) hp (by decide) (qN (by decide)) (vr rfl) rfl;obtain⟨y,s2,e2,y0,y1,d2⟩:=wD (f:=zc 2) (g:=eC (.int 6)) (far:=6) (ρ:=Sh sc a1 (some (.loc l)) a3 a4 a5 a6 a7 (some (.str (nmR r))) a9 a10 a11 a12 a13 a14 a15 a16 a17) d1.pot (by decide) (qN (by decide)) (vr rfl) rfl;have en:(2:Int)+x=((x.toNat+2:Nat):Int):=by omega
 have eb:(1:Int)+y=((y.toNat+1:Nat):Int):=by omega
 have hn:x.toNat+2=2\/x.toNat+2=3:=by omega
 have h1:1<=y.toNat+1:=by omega
 have h6:y.toNat+1<=6:=by omega
 have g24:uT (Sh sc a1 (some (.loc l)) a3 a4 a5 a6 a7 (some (.str (nmR r))) a9 a10 a11 a12 a13 a14 a15 a16 a17) s=.ok (.nx (S14 sc a1 l a3 a4 a5 a6 a7 r a9 a10 a11 a12 (x.toNat+2) (y.toNat+1) a15 a16 a17)) s2:=by
  rw[uT,z7o,vP,zo,xB,z2Q,Rb,e1,Rb,jf,Rb,zo,xB,z2Q,Rb,e2,Rb,jf,Rb,zI,en,eb];simp only[Rb];rw[_f (by simp[cap])];rfl
 generalize x.toNat+2=n at *;generalize y.toNat+1=b at *;have sz:Sz n:=by unfold Sz;omega
 obtain⟨j,s3,e3,hj,lj,fr⟩:=zhU sz r h1 (by omega) s2;have pl:l<s2.length:=d2.pot.lt;have g25:uR (S14 sc a1 l a3 a4 a5 a6 a7 r a9 a10 a11 a12 n b a15 a16 a17) s2=.ok (.nx (S14 sc a1 l a3 a4 a5 a6 a7 r a9 a10 a11 a12 n b (some (.int (mx r n b))) (some (.loc j)) a17)) s3:=by rw[uR,z7o,z65 (x:=.str (nmR r)) (y:=.int n) (z:=.int b) (vr rfl) (vr rfl) (vr rfl),e3];rfl
 have p3:Pot s3 l:=by
  obtain⟨p,h⟩:=d2.pot;exact⟨p,by rw[fr l pl,h]⟩
 obtain⟨w,s4,g26,lw,hw,d4⟩:=f26 (sc:=sc) (a1:=a1) (a3:=a3) (a4:=a4) (a5:=a5) (a6:=a6) (a7:=a7) (a9:=a9) (a10:=a10) (a11:=a11) (a12:=a12) (a15:=some (.int (mx r n b))) (a16:=some (.loc j)) (a17:=a17) (r:=r) hn h6 p3;have hj4:s4[j]? = some ((bst r n b).map rD):=by rw[d4.oth j (by omega),hj]
 have g27:=f27 (sc:=sc) (a1:=a1) (a2:=some (.loc l)) (a3:=a3) (a4:=a4) (a5:=a5) (a6:=a6) (a7:=a7) (a9:=a9) (a10:=a10) (a11:=a11) (a12:=a12) (a13:=some (.int n)) (a14:=some (.int b)) (w:=w) hn h1 h6 hj4;obtain⟨b7,g29⟩:=zjI (sc:=sc) (a1:=a1) (a2:=some (.loc l)) (a3:=a3) (a4:=a4) (a5:=a5) (a6:=a6) (a7:=a7) (a9:=a9) (a10:=a10) (a11:=a11) (a12:=a12) (a13:=some (.int n)) (a14:=some (.int b)) hn h1 h6 lw hw hj4;exact⟨_,s4,by rw[zk g24,zk g25,zk g26,zk g27,g29],_,_,_,_,_,_,rfl⟩
end
theorem zfY (ns:List Int) (j:Nat) (ρ:Ev) (s:Sto) (h:ShL ns ρ):∃ ρ' s',zfx (.int j) ρ s=.ok (.nx ρ') s'/\ShL ns ρ':=by
 obtain⟨a1,a2,a3,a4,a5,a6,a7,a8,a9,a10,a11,a12,a13,a14,a15,a16,a17,rfl⟩:=h;rw[show zfx (.int j) (Sh (.scr (iL ns)) a1 a2 a3 a4 a5 a6 a7 a8 a9 a10 a11 a12 a13 a14 a15 a16 a17) s=(zA z0i (zA z19 (zA kf (zA jU (zA jX (zA z0B (zA ju (zA uL (zA uP (zA uS (zA uQ (zA uT (zA uR (zA vB (zA uN (zA vM (zA xX xZ))))))))))))))))) (Sh (.scr (iL ns)) (some (.int j)) a2 a3 a4 a5 a6 a7 a8 a9 a10 a11 a12 a13 a14 a15 a16 a17) s from rfl];obtain⟨c,e1⟩:=zh2 ns j s;obtain⟨p,e2⟩:=zjV c s;have hp:Pot (s++[[.int p]]) s.length:=⟨p,by simp⟩;obtain⟨n,v,s1,e3,hv,d1⟩:=zk6 hp;have f2:z0i (Sh (.scr (iL ns)) (some (.int j)) a2 a3 a4 a5 a6 a7 a8 a9 a10 a11 a12 a13 a14 a15 a16 a17) s=.ok (.nx (Sh (.scr (iL ns)) (some (.int j)) (some (.loc s.length)) a3 a4 a5 a6 a7 a8 a9 a10 a11 a12 a13 a14 a15 a16 a17)) (s++[[.int p]]):=by rw[z0i,yw,wx (x:=.int c) (by rw[call2 (x:=.scr (iL ns)) (y:=.int j) (vr rfl) (vr rfl),e1]),e2];rfl
 have f3:z19 (Sh (.scr (iL ns)) (some (.int j)) (some (.loc s.length)) a3 a4 a5 a6 a7 a8 a9 a10 a11 a12 a13 a14 a15 a16 a17) (s++[[.int p]])=.ok (.nx (Sh (.scr (iL ns)) (some (.int j)) (some (.loc s.length)) (some (rD v)) a4 a5 a6 a7 a8 a9 a10 a11 a12 a13 a14 a15 a16 a17)) s1:=by rw[z19,yw,wx (x:=.loc s.length) (vr rfl),e3];rfl
 obtain⟨G,_,g456⟩:=zl8 (sc:=.scr (iL ns)) (a1:=some (.int j)) (a2:=some (.loc s.length)) (a4:=a4) (a5:=a5) (a6:=a6) (a7:=a7) (a8:=a8) (a9:=a9) (a10:=a10) (a11:=a11) (a12:=a12) (a13:=a13) (a14:=a14) (a15:=a15) (a16:=a16) (a17:=a17) hv s1;obtain⟨b6,b7,g8⟩:=f8 (sc:=.scr (iL ns)) (a1:=some (.int j)) (a2:=some (.loc s.length)) (a5:=some (.lst (G.map (pS v)))) (a6:=a6) (a7:=a7) (a8:=a8) (a9:=a9) (a10:=a10) (a11:=a11) (a12:=a12) (a13:=a13) (a14:=a14) (a15:=a15) (a16:=a16) (a17:=a17) (G:=G) hv s1;generalize some (D.lst (G.map (qS v)))=c4 at *;generalize some (D.lst (G.map (pS v)))=c5 at *;obtain⟨r,s2,e4,d2⟩:=zdr (f:=zc 2) (ρ:=Sh (.scr (iL ns)) (some (.int j)) (some (.loc s.length)) (some (rD v)) c4 c5 b6 b7 a8 a9 a10 a11 a12 a13 a14 a15 a16 a17) d1.pot (vr rfl);obtain⟨q,s3,e5,d3⟩:=zdr (f:=zc 2) (ρ:=Sh (.scr (iL ns)) (some (.int j)) (some (.loc s.length)) (some (rD v)) c4 c5 b6 b7 a8 a9 a10 a11 a12 a13 a14 a15 a16 a17) d2.pot (vr rfl);have f17:ju (Sh (.scr (iL ns)) (some (.int j)) (some (.loc s.length)) (some (rD v)) c4 c5 b6 b7 a8 a9 a10 a11 a12 a13 a14 a15 a16 a17) s1=.ok (.nx (S9 (.scr (iL ns)) (some (.int j)) (some (.loc s.length)) v c4 c5 b6 b7 r q a10 a11 a12 a13 a14 a15 a16 a17)) s3:=by
  rw[ju,z7o,vP,zo,e4,Rb,zo,e5,Rb,zI];simp only[Rb];rw[_f (by simp[cap])];rfl
 obtain⟨b10,b11,b12,g18⟩:=zje (sc:=.scr (iL ns)) (a1:=some (.int j)) (a2:=some (.loc s.length)) (a4:=c4) (a5:=c5) (a6:=b6) (a7:=b7) (a10:=a10) (a11:=a11) (a12:=a12) (a13:=a13) (a14:=a14) (a15:=a15) (a16:=a16) (a17:=a17) (r:=r) (q:=q) hv s3;obtain⟨ρ',s',gs,c7,c13,c14,c15,c16,c17,rfl⟩:=zeV (sc:=.scr (iL ns)) (a1:=some (.int j)) (a3:=some (rD v)) (a4:=c4) (a5:=c5) (a6:=b6) (a7:=b7) (a9:=some (.str (nmR q))) (a10:=b10) (a11:=b11) (a12:=b12) (a13:=a13) (a14:=a14) (a15:=a15) (a16:=a16) (a17:=a17) (r:=r) d3.pot;exact⟨_,s',by rw[zk f2,zk f3,g456,zk g8,zk f17,g18,gs],_,_,_,_,_,_,_,_,_,_,_,_,_,_,_,_,_,rfl⟩
theorem ziz (ns:List Int):∃ ρ' s',z5P (Sh (.scr (iL ns)) none none none none none none none none none none none none none none none none none) []=.ok (.nx ρ') s':=by
 obtain⟨k,ek,hk⟩:=Pr.m_many ns.length 8;rw[show ((8:Nat):Int)=8 from rfl]at ek;obtain⟨ρ',s',e,_⟩:=z30 (all:=ye k) (body:=zfx) (fun ρ _=>ShL ns ρ) (ye k) (λx hx ρ s hI=>by
  obtain⟨j,_,rfl⟩:=z8f hx;exact zfY ns j ρ s hI) (Sh (.scr (iL ns)) none none none none none none none none none none none none none none none none none) [] ⟨_,_,_,_,_,_,_,_,_,_,_,_,_,_,_,_,_,rfl⟩;refine⟨ρ',s',?_⟩;unfold z5P;rw[z1a,z5n (n:=k) (s1:=[]) (by omega) (by simp only[yI,zo,zI,z2Q,yz,_m,Rb,vW,zY,_w,zcW,zcw,ek]),Rb];exact e
theorem zcC:∀ns:List Int,ns.length<=63->∃s',zfB [.scr (ns.map D.int)] []=.ok (.bl true) s':=λns hn=>by
 obtain⟨ρ',s',e⟩:=ziz ns;refine⟨s',?_⟩;have st:zE ["_law_script","_law_k","_law_pot_here","_law_lot_here","_law_some","_law_turned","_law_rule","_law_steps","_law_one","_law_other","_law_many","_law_mine","_law_own","_law_size","_law_number","_law_most","_law_lots","_law_small"] [.scr (ns.map D.int)]=Sh (.scr (iL ns)) none none none none none none none none none none none none none none none none none:=rfl;unfold zfB Mof zda;rw[_f (by rfl),st,zk e];rfl
end K33
namespace K33
open L2 Dd Pg
theorem all_mk {P:Program} {w:World} {K:W.Frag} {h:Heap} {mg:Str->Option Value} {fa:Addr} (X:K.In h) (G:h.Ns mainGlobals mg) (hfa:mg "law"=some (.ref fa)) (e:z9N askQ K=valS askQ w) : ∃fd:FuncData,(∀(s:Shared) (v:Value),BindsTo s fd ⟨[v],[]⟩ [("_law_script",v)])/\∀base:Heap,K.In base->base.Ns mainGlobals mg->z2R P w K mg base CX0 11 fa fd ["_law_script"] (zfv K):=by
 obtain⟨f0,d0,a0,F0⟩:=zL X G e 0 rfl;obtain⟨f1,d1,a1,F1⟩:=zL X G e 1 rfl;obtain⟨f2,d2,a2,F2⟩:=zL X G e 2 rfl;obtain⟨f3,d3,a3,F3⟩:=zL X G e 3 rfl;obtain⟨f4,d4,a4,F4⟩:=zL X G e 4 rfl;obtain⟨f5,d5,a5,F5⟩:=zL X G e 5 rfl;obtain⟨f6,d6,a6,F6⟩:=zL X G e 6 rfl;obtain⟨f7,d7,a7,F7⟩:=zL X G e 7 rfl;obtain⟨f8,d8,a8,F8⟩:=zL X G e 8 rfl;obtain⟨f9,d9,a9,F9⟩:=zL X G e 9 rfl;obtain⟨f10,d10,a10,F10⟩:=zL X G e 10 rfl;obtain⟨f11,d11,a11,F11⟩:=zL X G e 11 rfl;obtain⟨f12,d12,a12,F12⟩:=zL X G e 12 rfl;obtain⟨f13,d13,a13,F13⟩:=zL X G e 13 rfl;obtain⟨f14,d14,a14,F14⟩:=zL X G e 14 rfl;obtain⟨f15,d15,a15,F15⟩:=zL X G e 15 rfl;obtain⟨f16,d16,a16,F16⟩:=zL X G e 16 rfl;obtain⟨f17,d17,a17,F17⟩:=zL X G e 17 rfl;obtain⟨f18,d18,a18,F18⟩:=zL X G e 18 rfl;obtain⟨f19,d19,a19,F19⟩:=zL X G e 19 rfl;obtain⟨f20,d20,a20,F20⟩:=zL X G e 20 rfl;obtain⟨f21,d21,a21,F21⟩:=zL X G e 21 rfl;obtain⟨f22,d22,a22,F22⟩:=zL X G e 22 rfl;obtain⟨f23,d23,a23,F23⟩:=zL X G e 23 rfl;obtain⟨f24,d24,a24,F24⟩:=zL X G e 24 rfl;obtain⟨f25,d25,a25,F25⟩:=zL X G e 25 rfl;obtain⟨f26,d26,a26,F26⟩:=zL X G e 26 rfl;obtain⟨f27,d27,a27,F27⟩:=zL X G e 27 rfl;obtain⟨f28,d28,a28,F28⟩:=zL X G e 28 rfl;obtain⟨f29,d29,a29,F29⟩:=zL X G e 29 rfl;obtain⟨f30,d30,a30,F30⟩:=zL X G e 30 rfl;obtain⟨f31,d31,a31,F31⟩:=zL X G e 31 rfl;obtain⟨f32,d32,a32,F32⟩:=zL X G e 32 rfl;obtain⟨f33,d33,a33,F33⟩:=zL X G e 33 rfl;obtain⟨f34,d34,a34,F34⟩:=zL X G e 34 rfl;obtain⟨f35,d35,a35,F35⟩:=zL X G e 35 rfl;obtain⟨f36,d36,a36,F36⟩:=zL X G e 36 rfl;obtain⟨f37,d37,a37,F37⟩:=zL X G e 37 rfl;have e0:=hfa.symm.trans a37;cases e0;obtain⟨oc,od,kV,doc,pm,an,cdv,ct,osl,rfl,hl,hc⟩:=F37.ex;have T:Txt mg:=⟨z9k X G e 0 rfl,z9k X G e 1 rfl,z9k X G e 2 rfl,wJ X G e 0 rfl,wJ X G e 1 rfl,wJ X G e 2 rfl,wJ X G e 3 rfl,wJ X G e 4 rfl,wJ X G e 5 rfl,wJ X G e 6 rfl,wJ X G e 7 rfl,wJ X G e 8 rfl,wJ X G e 9 rfl,wJ X G e 10 rfl,wJ X G e 11 rfl,wJ X G e 12 rfl,wJ X G e 13 rfl⟩;have T_RULES:zf4 P w K mg "RULES" xg:=zj4 X G e "RULES" z3h (_y (i:=0) rfl);have O_RULES:z7N P w K mg "RULES" (xg.map Prod.fst):=zgF X G e "RULES" z3h (_y (i:=0) rfl) (by decide +kernel);refine⟨W.fnOf "law" "law" (ke z1F) (vN z1F) (zg z1F) .none kV doc pm an cdv ct,λs v=>.of_eq rfl,λbase _ _=>?_⟩;have H0:=z4T (P:=P) (w:=w) (base:=base) T F0 a0;have H1:=z4C (P:=P) (w:=w) (base:=base) T F1 a1;have H2:=jk (P:=P) (w:=w) (base:=base) T F2 a2;have H3:=z0W (P:=P) (w:=w) (base:=base) T F3 a3;have H4:=vF (P:=P) (w:=w) (base:=base) T F4 a4;have H5:=z13 (P:=P) (w:=w) (base:=base) T F5 a5;have H6:=z6q (P:=P) (w:=w) (base:=base) T F6 a6;have H7:=z63 (P:=P) (w:=w) (base:=base) T F7 a7 T_RULES;have H8:=z9T (P:=P) (w:=w) (base:=base) T F8 a8;have H9:=z00 (P:=P) (w:=w) (base:=base) T F9 a9;have H10:=z4X (P:=P) (w:=w) (base:=base) T F10 a10;have H11:=z2g (P:=P) (w:=w) (base:=base) T F11 a11;have H12:=z1k (P:=P) (w:=w) (base:=base) T F12 a12;have H13:=z1o (P:=P) (w:=w) (base:=base) T F13 a13 H0;have H14:=z0X (P:=P) (w:=w) (base:=base) T F14 a14 H0;have H15:=z2W (P:=P) (w:=w) (base:=base) T F15 a15 H0;have H16:=z5y (P:=P) (w:=w) (base:=base) T F16 a16 H4;have H17:=z3V (P:=P) (w:=w) (base:=base) T F17 a17 H4 H5;have H18:=z8c (P:=P) (w:=w) (base:=base) T F18 a18 H5 H6;have H19:=z5K (P:=P) (w:=w) (base:=base) T F19 a19 H6;have H20:=z3q (P:=P) (w:=w) (base:=base) T F20 a20 H7;have H21:=z3P (P:=P) (w:=w) (base:=base) T F21 a21 H11;have H22:=z7I (P:=P) (w:=w) (base:=base) T F22 a22 H1 H13;have H23:=z3I (P:=P) (w:=w) (base:=base) T F23 a23 T_RULES H16 H17 H18 H19;have H24:=z58 (P:=P) (w:=w) (base:=base) T F24 a24 H22;have H25:=z33 (P:=P) (w:=w) (base:=base) T F25 a25 H24;have H26:=uJ (P:=P) (w:=w) (base:=base) T F26 a26 H20 H24;have H27:=z3B (P:=P) (w:=w) (base:=base) T F27 a27 H25 H26;have H28:=zcT (P:=P) (w:=w) (base:=base) T F28 a28 H8 H23 H27;have H29:=z1f (P:=P) (w:=w) (base:=base) T F29 a29 H3 H8 H23 H27;have H30:=zek (P:=P) (w:=w) (base:=base) T F30 a30 H25 H26 H28;have H31:=kW (P:=P) (w:=w) (base:=base) T F31 a31 H2 H25 H28;have H32:=z38 (P:=P) (w:=w) (base:=base) T F32 a32 H29 H30;have H33:=z1y (P:=P) (w:=w) (base:=base) T F33 a33 H30;have H34:=z1v (P:=P) (w:=w) (base:=base) T F34 a34 H20 H30;have H35:=z1x (P:=P) (w:=w) (base:=base) T F35 a35 H14 H15 H20 H31;have H36:=z43 (P:=P) (w:=w) (base:=base) T F36 a36 O_RULES H33;have H37:=z7F (P:=P) (w:=w) (base:=base) T F37 a37 H9 H10 H11 H12 H21 H25 H28 H30 H32 H33 H34 H35 H36;exact ziu (x:="law") H37 zcC
theorem boot_:∀w:World,(W.fencedOpening treeTable PySem.Challenge.pw_drawndown_k33_whole_beside w 5140).map (λs=>(s.heap,s.gens,s.drawn,s.toks))=some (W.boot_heap w.params,Array.mk [],W.boot_drawn,W.boot_toks):= W.boot_open (by kernel_rfl) (by decide) (λs=>by kernel_rfl)
theorem left_:W.LeftO PySem.Challenge.pw_drawndown_k33_whole_beside qv looseQ xtQ (obsS askQ) (valS askQ) 5140:=zaJ "special-get-raises" boot_ (λw os=>z1D (f:=λs=>(seenQ s,obsS askQ s)) (zky w) (bsz w) (z5e (z3G w os) (z4j w os))) (λw os=>z1D (f:=λs=>(seenQ s,obsS askQ s)) (zky w) (bsz w) (z5e (z5W w os) (z68 w os)))
end K33
open PySem.W
set_option maxRecDepth 100000 in
set_option maxHeartbeats 0 in
theorem PySem.Challenge.cw_drawndown_k33_whole_beside_holds : PySem.Challenge.rw_drawndown_k33_whole_beside.Holds := by
  w_on; refine holds_law K33.said_ λsaid => ?_
  refine holds_open (q := K33.qv) (loose := K33.looseQ) (Xt := K33.xtQ) (XP := XL K33.qv K33.lvQ) (Yf := Dd.obsS K33.askQ) (Ya := Dd.valS K33.askQ) (YP := Dd.saysS K33.askQ) (N := 5140) K33.left_ (Dd.zeh K33.askQ) (Dd.z88 K33.askQ) (λs e => xl_of s (Bool.and_eq_true_iff.mp e).1) XL.keeps (by rfl) (by rfl) (by rfl) (λs e => recFacts_of (Bool.and_eq_true_iff.mp e).2) (by rfl) (by first | assumption | decide +kernel) (by decide +kernel) ⟨rfl, rfl, rfl, rfl, rfl, by decide +kernel⟩ ?hw ?hc
  (case hw => w_witness2)
  refine Dd.walkY (l := PySem.Challenge.rw_drawndown_k33_whole_beside) (n := 63) (k := 11) (x := "_law_script") rfl (by decide) (by decide) rfl ⟨rfl, by decide, by decide, rfl⟩ ?F
  case F =>
    intro w mg fa h Yy G hmg XP
    obtain⟨K, KX, e⟩ := Yy
    exact⟨K, KX, K33.all_mk KX G hmg e ⟩
