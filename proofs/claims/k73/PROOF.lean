import PyProof.Rows.All
import Wide.All
import OpenK.AllK
import Wide.FinOn
import Lean
import PyProof.EqAt
import PyProof.EqKinds
import PyProof.TupleCall
import PyProof.ExcArgsOwn
import PyProof.ExcAttrAll.ValueError
import PyProof.ListMulRoad
import PyProof.Rows.Range3
import PySem.Challenge.RW_drawndown_k73_no_backs
set_option Elab.async false
set_option linter.all false
set_option maxRecDepth 100000
set_option maxHeartbeats 1000000
set_option exponentiation.threshold 5000
open PySem PySem.Spec PyProof.Rows
abbrev _a:=@wpAny_bind
abbrev _b:=@wpAny_pure
abbrev _c:=@List.getElem?_eq_some_iff
abbrev _d:=@Heap.get?_push_of_some
abbrev _e:=@if_pos
abbrev _f:=@List.getElem?_eq_getElem
abbrev _g:=@List.length_cons
abbrev _h:=@Nat.le_refl
abbrev _i:=@List.length_nil
abbrev _j:=@if_neg
abbrev _k:=@List.size_toArray
abbrev _l:=@List.getD_eq_getElem?_getD
abbrev _m:=@Heap.lt_size
abbrev _n:=@Heap.get?_push_size
abbrev _o:=@List.getElem?_append_left
abbrev _p:=@Nat.lt_of_lt_of_le
abbrev _q:=@List.mem_cons
abbrev _r:=@wpAny_mono
abbrev _s:=@List.mem_append_right
abbrev _t:=@List.getElem?_cons_succ
abbrev _u:=@List.getElem?_cons_zero
abbrev _v:=@List.map_cons
abbrev _w:=@Option.map_eq_some_iff
abbrev _x:=@List.mem_cons_of_mem
abbrev _y:=@Nat.ne_of_lt
abbrev _z:=@Bool.and_eq_true
abbrev _A:=@Option.bind_some
abbrev _B:=@List.getElem?_set_ne
abbrev _C:=@List.mem_of_getElem?
abbrev _D:=@Option.some.injEq
abbrev _E:=@Nat.zero_add
abbrev _F:=@List.mem_iff_getElem
abbrev _G:=@if_true
abbrev _H:=@List.mem_append
abbrev _I:=@List.length_map
abbrev _J:=@List.mem_map
abbrev _K:=@Option.some.inj
abbrev _L:=@List.getElem?_set_self
abbrev _M:=@List.length_append
abbrev _N:=@List.mem_cons_self
abbrev _O:=@List.getElem?_append_right
abbrev _P:=@wpAny_callSpecial?_slot
abbrev _Q:=@List.lookup_cons
abbrev _R:=@Bool.false_ne_true
abbrev _S:=@Nat.le_trans
abbrev _T:=@wpAny_call_entry
abbrev _U:=@wpAny_newObj_type
abbrev _V:=@List.getElem?_map
abbrev _W:=@wpAny_field
abbrev _X:=@decide_eq_false
abbrev _Y:=@List.all_eq_true
abbrev _Z:=@wpAny_setField_rec
abbrev _aa:=@PyProof.Rows.callWith_type1
abbrev _ab:=@PyProof.Rows.slot_tuple_getitem
abbrev _ac:=@PySem.mem_of_lookup
abbrev _ad:=@List.not_mem_nil
abbrev _ae:=@wpAny_truthy_bool
abbrev _af:=@List.mem_append_left
abbrev _ag:=@wpAny_Call_Name_kw
abbrev _ah:=@Heap.get?_update_other
abbrev _ai:=@Bool.false_eq_true
abbrev _aj:=@wpAny_loadPart'
abbrev _ak:=@Heap.size_push
abbrev _al:=@Nat.lt_irrefl
abbrev _am:=@Nat.zero_le
abbrev _an:=@decide_eq_true_eq
abbrev _ao:=@List.length_eq_zero_iff
abbrev _ap:=@Option.bind_eq_some_iff
abbrev _aq:=@decide_eq_true
abbrev _ar:=@Nat.pow_le_pow_right
abbrev _as:=@Option.map_some
abbrev _at:=@PySem.F.plain_min_loop
abbrev _au:=@Classical.byContradiction
abbrev _av:=@List.replicate_succ
abbrev _aw:=@beq_iff_eq
abbrev _ax:=@List.reverse_cons
abbrev _ay:=@wpAny_loadPart_at
abbrev _az:=@List.getElem?_eq_none
abbrev _aA:=@Option.isSome_iff_exists
abbrev _aB:=@if_false
abbrev _aC:=@wpAny_seqItems
abbrev _aD:=@List.append_nil
abbrev _aE:=@F.slot_dict_keyiterator_next
abbrev _aF:=@Int.emod_lt_of_pos
abbrev _aG:=@wpAny_holding
abbrev _aH:=@wpAny_standAt
abbrev _aI:=@List.mem_range
abbrev _aJ:=@Nat.lt_succ_of_lt
abbrev _aK:=@List.cons.injEq
abbrev _aL:=@Int.emod_nonneg
abbrev _aM:=@Ne.symm
abbrev _aN:=@List.drop_eq_getElem_cons
abbrev _aO:=@List.getElem?_take_of_lt
abbrev _aP:=@wpAny_comprehension_free
abbrev _aQ:=@List.mem_of_mem_take
abbrev _aR:=@wpAny_typeNameOfWhole_keyiter
abbrev _aS:=@List.flatten_cons
abbrev _aT:=@F.slot_tuple_iterator_next
abbrev _aU:=@List.mem_singleton
abbrev _aV:=@Heap.get?_update_self
abbrev _aW:=@wpAny_passesOwn
abbrev _aX:=@List.foldl_cons
abbrev _aY:=@List.find?_cons
abbrev _aZ:=@PassesOwn.never
abbrev _a0:=@congrArg
abbrev _a1:=@List.append_assoc
abbrev _a2:=@wpAny_rule
abbrev _a3:=@Prod.mk.injEq
abbrev _a4:=@List.eq_of_mem_replicate
abbrev _a5:=@Array.length_toList
abbrev _a6:=@Heap.SameBut.update
abbrev _a7:=@List.map_congr_left
abbrev _a8:=@W.kia_one
abbrev _a9:=@List.getElem?_replicate
abbrev _ba:=@Nat.lt_succ_self
abbrev _bb:=@List.getElem_mem
abbrev _bc:=@Option.getD_some
abbrev _bd:=@call_meets
abbrev _be:=@tupleKind_room_in1
abbrev _bf:=@SeqAt.canLay_of_shaped
abbrev _bg:=@List.set_cons_zero
abbrev _bh:=@List.set_cons_succ
abbrev _bi:=@List.take_of_length_le
abbrev _bj:=@List.map_map
abbrev _bk:=@List.mem_filter
abbrev _bl:=@List.nil_append
abbrev _bm:=@F.slot_int_rmul
abbrev _bn:=@List.dropLast_concat_getLast
abbrev _bo:=@Bool.not_true
abbrev _bp:=@F.slot_enumerate_next
abbrev _bq:=@PySem.F.slot_tuple_lt
abbrev _br:=@Int.mul_ediv_add_emod
abbrev _bs:=@Int.toNat_natCast
abbrev _bt:=@List.pairwise_map
abbrev _bu:=@Calls.evalArgs_plain
abbrev _bv:=@wpAny_letGo
abbrev _bw:=@PySem.F.excBase_ValueError
abbrev _bx:=@or_false
abbrev _by:=@List.length_take
abbrev _bz:=@List.cons_append
abbrev _bA:=@wpAny_isInstance
abbrev _bB:=@List.ext_getElem
abbrev _bC:=@wpAny_binaryOp_repeat_ref
abbrev _bD:=@List.filterMap_cons
abbrev _bE:=@List.length_pos_iff
abbrev _bF:=@PySem.F.args_tuple_add_2
abbrev _bG:=@List.any_cons
abbrev _bH:=@wpAny_attempt
abbrev _bI:=@List.nodup_cons
abbrev _bJ:=@List.of_mem_zip
abbrev _bK:=@List.length_set
abbrev _bL:=@List.mem_filterMap
abbrev _bM:=@Calls.spliced_cons
abbrev _bN:=@List.lookup_append
abbrev _bO:=@wpAny_tupleItemsOf
abbrev _bP:=@List.filter_append
abbrev _bQ:=@PySem.F.entry_tuple_add
abbrev _bR:=@PySem.F.plainAttrs_list
abbrev _bS:=@Int.eq_ofNat_of_zero_le
abbrev _bT:=@List.set_eq_take_append_cons_drop
abbrev _bU:=@wpAny_assign_Name
abbrev _bV:=@PySem.F.slot_tuple_add
abbrev _bW:=@subscriptTail_builtinR
abbrev _bX:=@Calls.callWith_builtin
abbrev _bY:=@List.map_nil
abbrev _bZ:=@PySem.F.entry_min_loop
abbrev _b0:=@List.take_add_one
abbrev _b1:=@Function.comp_def
abbrev _b2:=@List.length_replicate
abbrev _b3:=@List.length_singleton
abbrev _b4:=@exec_Assign_Name_used
abbrev _b5:=@PySem.F.slot_dict_get
abbrev _b6:=@F.typeOf_object_class
abbrev _b7:=@wpAny_eqBool_int
abbrev _b8:=@List.getElem_inj
abbrev _b9:=@typeIs_int
abbrev _ca:=@List.drop_length
abbrev _cb:=@F.slot_tuple_mul
abbrev _cc:=@F.args_dict_keyiterator_next_1
abbrev _cd:=@Paired.length
abbrev _ce:=@List.all_cons
abbrev _cf:=@wpAny_updateSeq_pair
abbrev _cg:=@F.entry_dict_keyiterator_next
abbrev _ch:=@Around.under_plainId
abbrev _ci:=@Int.natAbs_of_nonneg
abbrev _cj:=@wpAny_execs_nil
abbrev _ck:=@pushCells_keeps
abbrev _cm:=@F.slot_zip_next
abbrev _cn:=@codeAny_builtin
abbrev _co:=@Int.ediv_nonneg
abbrev _cq:=@List.getElem?_range
abbrev _cr:=@PyProof.Rows.lt_int
abbrev _cs:=@Nat.ne_of_gt
abbrev _ct:=@codeAny_mono
abbrev _cy:=@assignInOrder_cons
abbrev _cA:=@wpAny_setField
abbrev _cB:=@List.getElem_idxOf
abbrev _cC:=@Bool.not_false
abbrev _cD:=@wpAny_tryCatch
abbrev _cE:=@Int.mul_nonneg
abbrev _cJ:=@Calls.spliced_nil
abbrev _cK:=@List.take_sublist
abbrev _cL:=@slot_list_getitem
abbrev _cM:=@F.args_int_rmul_2
abbrev _cN:=@Nat.le_of_succ_le
abbrev _cO:=@Option.isSome_map
abbrev _cP:=@List.nodup_append
abbrev _cQ:=@wpAny_dictEntries
abbrev _cR:=@List.length_range
abbrev _cU:=@wpAny_onRaise
abbrev _cX:=@Bool.true_and
abbrev _cY:=@plainId_quiet
abbrev _cZ:=@W.cellsFrom_some
abbrev _c0:=@noFill_tuple_add
abbrev _c1:=@List.length_drop
abbrev _c2:=@F.slot_int_index
abbrev _c3:=@F.entry_int_rmul
abbrev _c5:=@List.prefix_refl
abbrev _c6:=@Nat.le_add_right
abbrev _c8:=@wpAny_forIn_list
abbrev _c9:=@List.mem_flatMap
abbrev _da:=@List.mem_toArray
abbrev _de:=@Int.ediv_le_self
abbrev _df:=@List.any_eq_true
abbrev _dg:=@Nat.le_of_lt
abbrev _dh:=@W.callWith_K
abbrev _do:=@Int.mul_comm
abbrev _dp:=@Nat.pow_succ
noncomputable section
namespace Dd
def dArgs(s:Stmt):Arguments:=match s with
 | .FunctionDef _ a _ _ _ _ _ _ _ _=>a | _=>{posonlyargs:=[],args:=[],vararg:=none,kwonlyargs:=[],kw_defaults:=[],kwarg:=none,defaults:=[]}
def zhX(s:Stmt):List Stmt:=match s with
 | .FunctionDef _ _ b _ _ _ _ _ _ _=>b | _=>[]
def zea(s:Stmt):Scope:=match s with
 | .FunctionDef _ _ _ _ _ _ sc _ _ _=>sc | _=>{kind:=.function,names:=[],isGenerator:=false,isCoroutine:=false}
def z71(h:Heap)(a:Addr):W.Frag:=match h.get? a with | some o=>[(a,o)] | none=>[]
noncomputable def zld(h:Heap)(g:W.Frag)(x:Str):W.Frag:=match W.nsIn g mainGlobals x with
 | some (some (.ref f))=>z71 h f++(match h.get? f with
   | some ⟨_,_,.func fd,_⟩=>(match fd.code with | .ref c=>z71 h c | _=>[]) | some ⟨_,_,.cls cd,_⟩=>z71 h cd.ns | _=>[]) | _=>[]
noncomputable def gat(h:Heap)(ns:List Str):W.Frag:=z71 h mainGlobals++ns.flatMap (zld h (z71 h mainGlobals))
abbrev FV:=Str×Str×Arguments×FuncBody×Scope×Addr×List (Str×Addr)×Value×Addr×Bool×Bool
noncomputable def zgc(K:W.Frag)(x:Str):Option FV:=match W.nsIn K mainGlobals x with
 | some (some (.ref f))=>(match K.lookup f with
   | some ⟨_,_,.func fd,_⟩=>some (fd.name,fd.qualname,fd.params,fd.body,fd.scope,fd.globals,fd.closure,fd.defaults,fd.builtins,W.codeIn K fd.code fd.qualname,W.keepIn K (.ref f)) | _=>none) | _=>none
def zk4(x:Str)(st:Stmt):Option FV:=some (x,x,dArgs st,.stmts (zhX st),zea st,mainGlobals,[],.none,builtinsNs,true,true)
def zfA(K:W.Frag)(x:Str):Bool:=match W.nsIn K mainGlobals x with | some none=>true | _=>false
noncomputable def zgJ(K:W.Frag)(x:Str):Option Int:=match W.nsIn K mainGlobals x with | some (some (.int i _))=>some i | _=>none
noncomputable def sameRef:Value->Option (Option Value)->Bool
 | .ref f,some (some (.ref g))=>f==g | _,_=>false
def zbI:Value->Option Str
 | .str k _=>some k | _=>none
def z5X:Value->Bool
 | .type c=>c=="dict" | _=>false
noncomputable def z8O(K:W.Frag):List DictEntry->List Str->List (Int×Option Str×Bool)
 | e::es,y::ys=>(e.hash,zbI e.key,sameRef e.val (W.nsIn K mainGlobals y))::z8O K es ys | [],[]=>[] | _,_=>[(0,none,false)]
noncomputable def zg2(K:W.Frag)(x:Str)(ys:List Str):Option (Bool×Bool×Bool×Bool×List (Int×Option Str×Bool)):=match W.nsIn K mainGlobals x with
 | some (some (.ref a))=>(match K.lookup a with
   | some ⟨c,d,.dict es _,sl⟩=>some (z5X c,d.isNone,sl.size==0,a==sysModules,z8O K es.toList ys) | _=>none) | _=>none
def zjS(w:World)(tb:List (Str×Str)):Option (Bool×Bool×Bool×Bool×List (Int×Option Str×Bool)):=some (true,true,true,false,tb.map λp=>(PyData.keyHash w.params p.1,some p.1,true))
def ziK:List Value->Option (List Int)
 | []=>some [] | .int i _::r=>(ziK r).map (i::·) | _=>none
def zcy:Value->Bool
 | .type c=>c=="tuple" | _=>false
noncomputable def zjL(K:W.Frag)(x:Str):Option (Bool×Option (List Int)):=match W.nsIn K mainGlobals x with
 | some (some (.ref a))=>(match K.lookup a with
   | some ⟨c,_,.seq its _,_⟩=>some (zcy c,ziK its.toList) | _=>none) | _=>none
noncomputable def bmV:List Value:=[.type "ValueError",.type "Exception",.type "BaseException",.type "object"]
noncomputable def z2F(K:W.Frag)(C:Addr):Bool:=match K.lookup C with | some ⟨.type t,_,.cls _,_⟩=>t=="type" | _=>false
noncomputable def z4b(K:W.Frag)(x:Str):Bool:=match W.nsIn K mainGlobals x with
 | some (some (.ref C))=>W.excIn K C bmV "ValueError.__new__"&&(W.findIn K (.ref C) "__getattribute__"==some (some (.builtin "BaseException.__getattribute__"))&&(W.findIn K (.ref C) "__getattr__"==some none && (W.findIn K (.ref C) "__class__"==some (some (.builtin "object.__class__"))&&(W.mroIn K C (.type "object")==some true&&(W.mroIn K C (.type "BaseException")==some true&&(z2F K C&&W.kitOne K (.ref C) (.type "ValueError")==some true)))))) | _=>false
def z3G(K:W.Frag)(x y:Str):Option (Option Bool×Option Bool):=match W.nsIn K mainGlobals x,W.nsIn K mainGlobals y with
 | some (some (.ref C)),some (some (.ref D))=>some (W.mroIn K C (.ref D),W.kitOne K (.ref C) (.ref D)) | _,_=>none
abbrev Obs:=List (Option FV)×List Bool×List (Option Int)×List (Option (Bool×Bool×Bool×Bool×List (Int×Option Str×Bool)))×List (Option (Bool×Option (List Int)))×List Bool×List (Option (Option Bool×Option Bool))
structure Ask where
 fs:List (Str×Stmt)
 bs:List Str
 cs:List (Str×Int)
 ts:List (Str×List (Str×Str))
 us:List (Str×List Int)
 xs:List Str
 ps:List ((Str×Str)×Bool)
noncomputable def z9P(q:Ask)(K:W.Frag):Obs:=(q.fs.map λp=>zgc K p.1,q.bs.map (zfA K),q.cs.map λp=>zgJ K p.1,q.ts.map (λp=>zg2 K p.1 (p.2.map (·.2))),q.us.map (λp=>zjL K p.1),q.xs.map (z4b K),q.ps.map λp=>z3G K p.1.1 p.1.2)
noncomputable def obsS(q:Ask)(s:Shared):Obs:=z9P q (gat s.heap (q.fs.map (·.1)++q.ts.map (·.1)++q.us.map (·.1)++q.xs))
noncomputable def valS(q:Ask)(w:World):Obs:=(q.fs.map λp=>zk4 p.1 p.2,q.bs.map λ_=>true,q.cs.map λp=>some p.2,q.ts.map (λp=>zjS w p.2),q.us.map (λp=>some (true,some p.2)),q.xs.map λ_=>true,q.ps.map λp=>some (some p.2,some p.2))
noncomputable def z2L(tb:String->Option Builtin)(p:Program)(w:World)(n₀:Nat)(ann:Option Value):Nat->W.SharedT->Thread->Option W.SharedT
 | 0,_,_=>none | n+1,s,t=>match W.through t with
  | true=>some s | false=>match W.stepOk n₀ ann t with
   | false=>none | true=>match W.stepT (denote tb) p w s t with
    | some (s',t')=>z2L tb p w n₀ ann n s' t' | none=>none
def zhG(l:List Obj):W.BT×Nat:=l.foldl (λa o=>(a.1.ins a.2 o,a.2+1)) (W.BT.nil,0)
noncomputable def zhk(P:Params):W.BT:=(zhG (W.boot_heap P).objs.toList).1
end Dd
namespace K73
open Dd
def top(i:Nat):Stmt:=PySem.Challenge.pw_drawndown_k73_no_backs.main.body.getD i (.Pass ⟨0,0,0,0⟩)
abbrev kB:Stmt:=top 22
abbrev kj:Stmt:=top 24
abbrev wv:Stmt:=top 27
abbrev yV:Stmt:=top 33
abbrev uF:Stmt:=top 34
abbrev z0C:Stmt:=top 35
abbrev z0n:Stmt:=top 41
abbrev z4U:Stmt:=top 47
abbrev uA:Stmt:=top 59
abbrev we:Stmt:=top 61
abbrev vG:Stmt:=top 64
abbrev kG:Stmt:=top 65
abbrev js:Stmt:=top 66
abbrev vy:Stmt:=top 67
abbrev qc:Stmt:=top 69
abbrev uZ:Stmt:=top 23
abbrev uC:Stmt:=top 25
abbrev jq:Stmt:=top 26
abbrev z0z:Stmt:=top 36
abbrev kf:Stmt:=top 37
abbrev z1X:Stmt:=top 38
abbrev z0B:Stmt:=top 39
abbrev uo:Stmt:=top 42
abbrev jh:Stmt:=top 60
abbrev ky:Stmt:=top 68
abbrev uE:Stmt:=top 70
abbrev z2V:Stmt:=top 29
abbrev ku:Stmt:=top 46
abbrev uB:Stmt:=top 58
abbrev qb:Stmt:=top 30
abbrev uj:Stmt:=top 31
abbrev yx:Stmt:=top 43
abbrev uz:Stmt:=top 44
abbrev z4p:Stmt:=top 45
abbrev vS:Stmt:=top 49
abbrev kC:Stmt:=top 57
abbrev z0j:Stmt:=top 56
abbrev qm:Stmt:=top 62
abbrev qR:Stmt:=top 71
abbrev z3z:Stmt:=top 72
noncomputable def z8w:List (Str×Str):=[("next","by_next"),("least","by_least"),("all","by_all"),("turn","by_turn")]
noncomputable def askQ:Ask:=⟨[(("is_whole":Str),kB), (("has_size":Str),kj), (("tuples_between":Str),wv), (("greatest_and_others":Str),yV), (("least_place":Str),uF), (("all_but":Str),z0C), (("is_rule":Str),z0n), (("moved":Str),z4U), (("one_greater":Str),uA), (("numbers_leaving":Str),we), (("_law_cell_at":Str),vG), (("_law_pot":Str),kG), (("_law_take":Str),js), (("_law_kind_of":Str),vy), (("_law_rules":Str),qc), (("are_wholes":Str),uZ), (("want_number":Str),uC), (("want_size":Str),jq), (("by_next":Str),z0z), (("by_least":Str),kf), (("by_all":Str),z1X), (("by_turn":Str),z0B), (("want_rule":Str),uo), (("undivided":Str),jh), (("_law_lot":Str),ky), (("_law_no_lot":Str),uE), (("is_lot":Str),z2V), (("division":Str),ku), (("maybe_ahead":Str),uB), (("want_lot":Str),qb), (("has_ended":Str),uj), (("want_rule_and_lot":Str),yx), (("want_step":Str),uz), (("step":Str),z4p), (("steps_of_all":Str),vS), (("comes_to":Str),kC), (("lots_to":Str),z0j), (("least_with":Str),qm), (("_law_told":Str),qR), (("law":Str),z3z)], [("ValueError":Str),("all":Str),("bool":Str),("enumerate":Str),("int":Str),("isinstance":Str),("len":Str),("list":Str),("max":Str),("min":Str),("range":Str),("sorted":Str),("str":Str),("tuple":Str),("zip":Str)], [(("LEAST_SIZE":Str),(2:Int)),(("MOST_AHEAD":Str),(30:Int)),(("MOST_LOTS":Str),(1000:Int)),(("MOST_NUMBER":Str),(16:Int)),(("MOST_SIZE":Str),(4:Int)),(("MOST_SIZE_LED":Str),(3:Int)),(("MOST_STEPS":Str),(12:Int))], [(("RULES":Str),z8w)], [], [("DrawError":Str),("Ended":Str),("NoBottom":Str),("NoCube":Str),("NoDeed":Str),("NoLot":Str),("NoNumber":Str),("NoRoot":Str),("NoRow":Str),("NoRule":Str),("NoSize":Str),("NoStep":Str),("NoTable":Str),("NoText":Str),("NoTuple":Str),("NotAlike":Str),("NotFair":Str),("TooMany":Str)], [((("Ended":Str),("NoLot":Str)),false),((("Ended":Str),("NoRule":Str)),false),((("Ended":Str),("Ended":Str)),true),((("Ended":Str),("NoBottom":Str)),false),((("Ended":Str),("NoRoot":Str)),false),((("Ended":Str),("NoCube":Str)),false),((("Ended":Str),("NoSize":Str)),false),((("Ended":Str),("NoNumber":Str)),false),((("Ended":Str),("TooMany":Str)),false),((("Ended":Str),("NoTable":Str)),false),((("Ended":Str),("NoTuple":Str)),false),((("Ended":Str),("NotAlike":Str)),false),((("Ended":Str),("NotFair":Str)),false),((("Ended":Str),("NoText":Str)),false),((("Ended":Str),("NoStep":Str)),false),((("Ended":Str),("NoDeed":Str)),false),((("Ended":Str),("NoRow":Str)),false),((("NoLot":Str),("NoLot":Str)),true),((("NoLot":Str),("NoRule":Str)),false),((("NoLot":Str),("Ended":Str)),false),((("NoLot":Str),("NoBottom":Str)),false),((("NoLot":Str),("NoRoot":Str)),false),((("NoLot":Str),("NoCube":Str)),false),((("NoLot":Str),("NoSize":Str)),false),((("NoLot":Str),("NoNumber":Str)),false),((("NoLot":Str),("TooMany":Str)),false),((("NoLot":Str),("NoTable":Str)),false),((("NoLot":Str),("NoTuple":Str)),false),((("NoLot":Str),("NotAlike":Str)),false),((("NoLot":Str),("NotFair":Str)),false),((("NoLot":Str),("NoText":Str)),false),((("NoLot":Str),("NoStep":Str)),false),((("NoLot":Str),("NoDeed":Str)),false),((("NoLot":Str),("NoRow":Str)),false),((("NoNumber":Str),("NoLot":Str)),false),((("NoNumber":Str),("NoRule":Str)),false),((("NoNumber":Str),("Ended":Str)),false),((("NoNumber":Str),("NoBottom":Str)),false),((("NoNumber":Str),("NoRoot":Str)),false),((("NoNumber":Str),("NoCube":Str)),false),((("NoNumber":Str),("NoSize":Str)),false),((("NoNumber":Str),("NoNumber":Str)),true),((("NoNumber":Str),("TooMany":Str)),false),((("NoNumber":Str),("NoTable":Str)),false),((("NoNumber":Str),("NoTuple":Str)),false),((("NoNumber":Str),("NotAlike":Str)),false),((("NoNumber":Str),("NotFair":Str)),false),((("NoNumber":Str),("NoText":Str)),false),((("NoNumber":Str),("NoStep":Str)),false),((("NoNumber":Str),("NoDeed":Str)),false),((("NoNumber":Str),("NoRow":Str)),false),((("NoRule":Str),("NoLot":Str)),false),((("NoRule":Str),("NoRule":Str)),true),((("NoRule":Str),("Ended":Str)),false),((("NoRule":Str),("NoBottom":Str)),false),((("NoRule":Str),("NoRoot":Str)),false),((("NoRule":Str),("NoCube":Str)),false),((("NoRule":Str),("NoSize":Str)),false),((("NoRule":Str),("NoNumber":Str)),false),((("NoRule":Str),("TooMany":Str)),false),((("NoRule":Str),("NoTable":Str)),false),((("NoRule":Str),("NoTuple":Str)),false),((("NoRule":Str),("NotAlike":Str)),false),((("NoRule":Str),("NotFair":Str)),false),((("NoRule":Str),("NoText":Str)),false),((("NoRule":Str),("NoStep":Str)),false),((("NoRule":Str),("NoDeed":Str)),false),((("NoRule":Str),("NoRow":Str)),false),((("NoSize":Str),("NoLot":Str)),false),((("NoSize":Str),("NoRule":Str)),false),((("NoSize":Str),("Ended":Str)),false),((("NoSize":Str),("NoBottom":Str)),false),((("NoSize":Str),("NoRoot":Str)),false),((("NoSize":Str),("NoCube":Str)),false),((("NoSize":Str),("NoSize":Str)),true),((("NoSize":Str),("NoNumber":Str)),false),((("NoSize":Str),("TooMany":Str)),false),((("NoSize":Str),("NoTable":Str)),false),((("NoSize":Str),("NoTuple":Str)),false),((("NoSize":Str),("NotAlike":Str)),false),((("NoSize":Str),("NotFair":Str)),false),((("NoSize":Str),("NoText":Str)),false),((("NoSize":Str),("NoStep":Str)),false),((("NoSize":Str),("NoDeed":Str)),false),((("NoSize":Str),("NoRow":Str)),false),((("TooMany":Str),("NoLot":Str)),false),((("TooMany":Str),("NoRule":Str)),false),((("TooMany":Str),("Ended":Str)),false),((("TooMany":Str),("NoBottom":Str)),false),((("TooMany":Str),("NoRoot":Str)),false),((("TooMany":Str),("NoCube":Str)),false),((("TooMany":Str),("NoSize":Str)),false),((("TooMany":Str),("NoNumber":Str)),false),((("TooMany":Str),("TooMany":Str)),true),((("TooMany":Str),("NoTable":Str)),false),((("TooMany":Str),("NoTuple":Str)),false),((("TooMany":Str),("NotAlike":Str)),false),((("TooMany":Str),("NotFair":Str)),false),((("TooMany":Str),("NoText":Str)),false),((("TooMany":Str),("NoStep":Str)),false),((("TooMany":Str),("NoDeed":Str)),false),((("TooMany":Str),("NoRow":Str)),false),((("Ended":Str),("DrawError":Str)),true),((("NoLot":Str),("DrawError":Str)),true),((("NoNumber":Str),("DrawError":Str)),true),((("NoRule":Str),("DrawError":Str)),true),((("NoSize":Str),("DrawError":Str)),true),((("TooMany":Str),("DrawError":Str)),true)]⟩
def qv:Program:=W.view PySem.Challenge.pw_drawndown_k73_no_backs [72]
noncomputable def looseQ:List Str:=[("DrawError":Str),("NoLot":Str),("NoTable":Str),("NoTuple":Str),("NotAlike":Str),("NotFair":Str),("NoText":Str),("NoRule":Str),("Ended":Str),("NoBottom":Str),("NoRoot":Str),("NoCube":Str),("NoSize":Str),("NoNumber":Str),("TooMany":Str),("NoStep":Str),("NoDeed":Str),("NoRow":Str),("LEAST_SIZE":Str),("MOST_SIZE":Str),("is_whole":Str),("are_wholes":Str),("has_size":Str),("want_number":Str),("want_size":Str),("tuples_between":Str),("is_lot":Str),("want_lot":Str),("has_ended":Str),("greatest_and_others":Str),("least_place":Str),("all_but":Str),("by_next":Str),("by_least":Str),("by_all":Str),("by_turn":Str),("RULES":Str),("is_rule":Str),("want_rule":Str),("want_rule_and_lot":Str),("want_step":Str),("step":Str),("division":Str),("moved":Str),("steps_of_all":Str),("MOST_AHEAD":Str),("MOST_LOTS":Str),("MOST_SIZE_LED":Str),("MOST_STEPS":Str),("MOST_NUMBER":Str),("lots_to":Str),("comes_to":Str),("maybe_ahead":Str),("one_greater":Str),("undivided":Str),("numbers_leaving":Str),("least_with":Str),("_law_cell_at":Str),("_law_pot":Str),("_law_take":Str),("_law_kind_of":Str),("_law_lot":Str),("_law_rules":Str),("_law_no_lot":Str),("_law_told":Str)]
def lvQ:List (Str×W.WData):=[]
def xtQ:Shared->Bool:=λs=>W.xlAt qv lvQ s&&W.recOk (W.RowW.records (W.OpenRow.toRowW (W.OpenLaw.row PySem.Challenge.rw_drawndown_k73_no_backs))) s
theorem zl6:∀w:World,W.absHeap (zhk w.params) 11 (W.boot_heap w.params).life=W.boot_heap w.params:=by
 intro w;kernel_rfl
theorem bsz:∀w:World,((W.boot_heap w.params).isNs mainGlobals&&(Array.mk []:Array GenState).size==0,(W.boot_heap w.params).objs.size,(W.boot_heap w.params).nsMap mainGlobals "__annotations__")=(true,11,(some (.ref 6))):=by
 intro w;kernel_rfl
noncomputable def zjn(w v:World)(os:OsState):Option W.SharedT:=z2L treeTable PySem.Challenge.pw_drawndown_k73_no_backs v 11 (some (.ref 6)) 10502 ⟨zhk w.params,11,(W.boot_heap w.params).life,Array.mk [],W.boot_drawn,W.boot_toks,os⟩ (W.topStub PySem.Challenge.pw_drawndown_k73_no_backs)
noncomputable def ziA(w:World)(s:W.SharedT):Bool:=W.staticsOk (importedModules PySem.Challenge.pw_drawndown_k73_no_backs.main.body) (W.boot_heap w.params) s.abs.heap&&W.namesBound PySem.Challenge.pw_drawndown_k73_no_backs s.abs.heap&&W.gensDone s.abs&&W.laidKept (W.boot_heap w.params) s.abs.heap
noncomputable def seenQ(s:Shared):=W.openSeen qv looseQ (importedModules PySem.Challenge.pw_drawndown_k73_no_backs.main.body) xtQ true s
set_option maxRecDepth 1000000 in
theorem z5k:∀(w:World)(os:OsState),(zjn w (w.withFollow "special-get-raises" false) os).map (λs=>(ziA w s,obsS askQ s.abs))=some (true,valS askQ (w.withFollow "special-get-raises" false)):=by
 intro w os;kernel_rfl
set_option maxRecDepth 1000000 in
theorem z5S:∀(w:World)(os:OsState),(zjn w (w.withFollow "special-get-raises" false) os).map (λs=>seenQ s.abs)=some (W.openGood qv looseQ):=by
 intro w os;kernel_rfl
set_option maxRecDepth 1000000 in
theorem z7b:∀(w:World)(os:OsState),(zjn w (w.withFollow "special-get-raises" true) os).map (λs=>(ziA w s,obsS askQ s.abs))=some (true,valS askQ (w.withFollow "special-get-raises" true)):=by
 intro w os;kernel_rfl
set_option maxRecDepth 1000000 in
theorem z7m:∀(w:World)(os:OsState),(zjn w (w.withFollow "special-get-raises" true) os).map (λs=>seenQ s.abs)=some (W.openGood qv looseQ):=by
 intro w os;kernel_rfl
end K73
namespace L2
abbrev Key:=Sum Int Str
def z4Q:Key->Value->Bool
 | .inl k,v=>Value.isInt k v | .inr x,v=>Value.isStrOf x v
def zm6(w:World):Key->Int
 | .inl k=>hashInt k | .inr x=>hashStr w x
theorem yp:∀{k:Key} {v:Value},z4Q k v=true->(∃i t,k=Sum.inl i/\v=Value.int i t)\/(∃x t,k=Sum.inr x/\v=Value.str x t)
 | .inl i,v,h=>by
  obtain⟨t,e⟩:=Value.isInt_shape (k:=i) (v:=v) h;exact .inl ⟨i,t,rfl,e⟩ | .inr x,v,h=>by
  obtain⟨t,e⟩:=Value.isStrOf_shape (x:=x) (v:=v) h;exact .inr ⟨x,t,rfl,e⟩
theorem zad(i:Int)(t:Tok):z4Q (.inl i) (.int i t)=true:=by simp[z4Q,Value.isInt]
theorem z2J(x:Str)(t:Tok):z4Q (.inr x) (.str x t)=true:=by simp[z4Q,Value.isStrOf]
theorem zj1(a b:Int):decide ((Sum.inl a:Key)=Sum.inl b)=(a==b):=by
 by_cases e:a=b;·subst e;simp
 ·have h:¬ (Sum.inl a:Key)=Sum.inl b:=λq=>e (Sum.inl.inj q);rw[_X h];exact (beq_eq_false_iff_ne.mpr e).symm
theorem zj7(a b:Str):decide ((Sum.inr a:Key)=Sum.inr b)=decide (a=b):=by
 by_cases e:a=b;·subst e;simp
 ·have h:¬ (Sum.inr a:Key)=Sum.inr b:=λq=>e (Sum.inr.inj q);rw[_X h,_X e]
theorem zhA(a:Int)(b:Str):decide ((Sum.inl a:Key)=Sum.inr b)=false:=_X (λq=>nomatch q)
theorem zhH(a:Str)(b:Int):decide ((Sum.inr a:Key)=Sum.inl b)=false:=_X (λq=>nomatch q)
def zK(prog:Program)(w:World):PySem.KeyKind prog w Key where
 is:=z4Q;hash:=zm6 w;inj:=λv a b ha hb=>by
  rcases yp ha with⟨i,t,rfl,rfl⟩ | ⟨x,t,rfl,rfl⟩
  ·rcases yp hb with⟨j,u,rfl,e⟩ | ⟨y,u,rfl,e⟩;·injection e with e1 _;rw[e1]
   ·exact nomatch e
  ·rcases yp hb with⟨j,u,rfl,e⟩ | ⟨y,u,rfl,e⟩;·exact nomatch e
   ·injection e with e1 _;rw[e1]
 byValue:=λk v h=>by rcases yp h with⟨i,t,rfl,rfl⟩ | ⟨x,t,rfl,rfl⟩<;>rfl
 pyHash:=λhv h=>by
  rcases yp hv with⟨i,t,rfl,rfl⟩ | ⟨x,t,rfl,rfl⟩;·exact wpAny_pyHash_int h
  ·exact wpAny_pyHash_str h
 eqBool:=λhu hv h=>by
  rcases yp hu with⟨i,t,rfl,rfl⟩ | ⟨x,t,rfl,rfl⟩
  ·rcases yp hv with⟨j,u,rfl,rfl⟩ | ⟨y,u,rfl,rfl⟩;·rw[zj1]at h;exact _b7 h
   ·rw[zhA]at h;exact SeqAt.EqAt.int_str i t y u _ _ _ _ h
  ·rcases yp hv with⟨j,u,rfl,rfl⟩ | ⟨y,u,rfl,rfl⟩;·rw[zhH]at h;exact SeqAt.EqAt.str_int x t j u _ _ _ _ h
   ·rw[zj7]at h;exact wpAny_eqBool_str h
 «strs» := λk x t v h=>by
  rcases yp h with⟨i,u,rfl,e⟩ | ⟨y,u,rfl,e⟩;·exact nomatch e
  ·injection e with e1 _;subst e1;cases v<;>rfl
theorem z3w(prog:Program)(w:World)(k:Key)(v:Value):(zK prog w).is k v=z4Q k v:=rfl
theorem z6O(prog:Program)(w:World)(i:Int)(t:Tok):(zK prog w).is (.inl i) (.int i t)=true:=zad i t
theorem z21(prog:Program)(w:World)(x:Str)(t:Tok):(zK prog w).is (.inr x) (.str x t)=true:=z2J x t
inductive V where | non | bl (b:Bool) | int (i:Int) | str (x:Str) | byt (b:Array UInt8) | flt (b:UInt64) | ref (a:Addr) | ty (n:String) deriving DecidableEq
def yr:V->Value->Prop
 | .non,u=>u=Value.none | .bl b,u=>u=Value.bool b | .int i,u=>∃t,u=Value.int i t | .str x,u=>∃t,u=Value.str x t | .byt b,u=>∃t,u=Value.bytes b t | .flt b,u=>∃t,u=Value.float b t | .ref a,u=>u=Value.ref a | .ty n,u=>u=Value.type n
abbrev yw:List V->List Value->Prop:=Paired yr
theorem yw.length{xs:List V}{us:List Value}(r:yw xs us):xs.length=us.length:=_cd r
theorem yw.get:∀{xs:List V} {us:List Value} {i:Nat} {x:V},yw xs us->xs[i]? = some x->∃u,us[i]? = some u/\yr x u
 | _,_,_,_,.nil,e=>by simp at e | _,_,0,_,.cons r _,e=>by simp at e;subst e;exact⟨_,rfl,r⟩ | _,_,i+1,x,.cons _ t,e=>by
  obtain⟨u,h1,h2⟩:=yw.get (i:=i) (x:=x) t (by simpa using e);exact⟨u,by simpa using h1,h2⟩
theorem yw.set{x:V}{u:Value}(r:yr x u):∀{xs:List V}{us:List Value}(i:Nat),yw xs us->yw (xs.set i x) (us.set i u)
 | _,_,_,.nil=>.nil | _,_,0,.cons _ t=>.cons r t | _,_,i+1,.cons q t=>.cons q (yw.set r i t)
theorem yw.append:∀{xs ys:List V}{us ws:List Value},yw xs us->yw ys ws->yw (xs++ys) (us++ws)
 | _,_,_,_,.nil,s=>s | _,_,_,_,.cons r t,s=>.cons r (yw.append t s)
theorem yw.take:∀{xs:List V}{us:List Value}(n:Nat),yw xs us->yw (xs.take n) (us.take n)
 | _,_,0,_=>.nil | _,_,_+1,.nil=>.nil | _,_,n+1,.cons r t=>.cons r (yw.take n t)
theorem yw.drop:∀{xs:List V}{us:List Value}(n:Nat),yw xs us->yw (xs.drop n) (us.drop n)
 | _,_,0,r=>r | _,_,_+1,.nil=>.nil | _,_,n+1,.cons _ t=>yw.drop n t
def z9L:Option V->Option Value->Prop
 | some v,some u=>yr v u | none,none=>True | _,_=>False
def KV{κ:Type}:List (κ×V)->List (κ×Value)->Prop:=Paired λ(p:κ×V)(q:κ×Value)=>p.1=q.1/\yr p.2 q.2
def kV:Key->V
 | .inl i=>.int i | .inr x=>.str x
inductive HO where | lst (xs:List V) | tup (xs:List V) | dK (kvs:List (Key×V)) | dT (kvs:List (List Key×V)) | set (S:Int->Bool)(n:Nat) | ins (C dx:Addr)(fs:List (Str×V)) | own (x:Addr) | xd (fs:List (Str×V)) | met (f x:Addr) | rng (lo hi:Int) | frz (o:Obj)(u:HO) | tbl (ps:Array Value) | ext (φ:Heap->Prop)
abbrev Hp:=Addr->Option HO
def upd(H:Hp)(a:Addr)(o:HO):Hp:=λb=>if b=a then some o else H b
theorem zN{H:Hp}{a:Addr}{o:HO}:upd H a o a=some o:=by unfold upd;rw[_e rfl]
theorem zE{H:Hp}{a b:Addr}{o:HO}(h:b≠a):upd H a o b=H b:=by unfold upd;rw[_j h]
theorem zf8{H:Hp}{a:Addr}{o u:HO}:upd (upd H a o) a u=upd H a u:=by funext b;unfold upd;split<;>rfl
theorem zjJ{H:Hp}{a b:Addr}{o u:HO}(h:H a=some o)(h':H b=some u)(d:o≠u):a≠b:=by intro e;subst e;rw[h]at h';exact d (_K h')
theorem yD{H:Hp}{a b:Addr}{o:HO}(h:H a=some o)(h':H b=none):a≠b:=by intro e;subst e;rw[h]at h';cases h'
def za3(h:Heap)(a:Addr)(items:Array Value):Prop:=∃o,h.get? a=some o/\o.cls=.type "tuple"/\o.dict=none/\∃n,o.data=.seq items n
theorem za3.tup{h:Heap}{a:Addr}{items:Array Value}(x:za3 h a items):IsTup h a items:=let ⟨o,e,c,_,r⟩:=x;⟨o,e,c,r⟩
theorem za3.new(h:Heap)(items:Array Value):za3 (h.push {cls:=.type "tuple",data:=.seq items}) h.objs.size items:=⟨_,_n _ rfl,rfl,rfl,_,rfl⟩
theorem za3.lt{h:Heap}{a:Addr}{items:Array Value}(x:za3 h a items):a<h.objs.size:=x.tup.lt
section
variable (P:Program)(w:World)
def yM(H:Hp)(h:Heap)(a:Addr):HO->Prop
 | .lst xs=>xs.length<=sizeLine/\∃(its:List Value)(n:Nat),yw xs its/\h.get? a=some {cls:=.type "list",data:=.seq its.toArray n} | .tup xs=>xs.length<=sizeLine/\∃its:List Value,yw xs its/\za3 h a its.toArray | .dK kvs=>kvs.length<=sizeLine/\(a==sysModules)=false/\∃vs,KV kvs vs/\h.DictOf (zK P w) a vs | .dT kvs=>kvs.length<=sizeLine/\(a==sysModules)=false/\∃xs:List (List Key×Addr×Value), Paired (λ(p:List Key×V)(q:List Key×Addr×Value)=>p.1=q.1/\H q.2.1=some (.tup (p.1.map kV))/\yr p.2 q.2.2) kvs xs/\ ∃o es ep,h.get? a=some o/\o.ExactDict/\o.data=.dict es ep/\es.toList=xs.map (entryOfKey (tupleKind (zK P w)))/\(xs.map (·.1)).Nodup | .set S n=>h.SetOf (intKind P w) a S n | .ins C dx fs=>H dx=some (.own a)/\fs.length<=1000/\dx≠a/\h.get? a=some (W.instObj C dx)/\ ∃mA,h.Ns1 dx mA/\(∀f,z9L (fs.lookup f) (mA f))/\PySem.Within mA (fs.map (·.1)) | .own _=>∃o,h.get? a=some o | .xd fs=>∃mA,h.Ns1 a mA/\∀f,z9L (fs.lookup f) (mA f) | .rng lo hi=>∃t u v,h.get? a=some {cls:=.type "range",data:=.fields #[.int lo t,.int hi u,.int 1 v]} | .frz o u=>h.get? a=some o/\yM H h a u | .tbl ps=>h.get? a=some {cls:=.none,data:=.fields ps} | .met f x=>h.get? a=some (W.methodObj (.ref f) (.ref x)) | .ext φ=>φ h/\(∃o,h.get? a=some o)/\∀h1 h2:Heap,φ h1->(∀o,h1.get? a=some o->h2.get? a=some o)->φ h2
def HOk(H:Hp)(h:Heap):Prop:=∀a o,H a=some o->yM P w H h a o
end
section
variable {P:Program}{w:World}{H H':Hp}{h h':Heap}{a:Addr}{o:HO}
theorem yM.lt(x:yM P w H h a o):a<h.objs.size:=by cases o with
 | lst xs=>obtain⟨_,_,_,_,e⟩:=x;exact _m e | tup xs=>obtain⟨_,_,_,p⟩:=x;exact p.lt | dK kvs=>obtain⟨_,_,_,_,o,_,_,e,_⟩:=x;exact _m e | dT kvs=>obtain⟨_,_,_,_,o,_,_,e,_⟩:=x;exact _m e | set S n=>obtain⟨o,_,_,_,e,_⟩:=x;exact _m e | ins C dx fs=>obtain⟨_,_,_,e,_⟩:=x;exact _m e | own y=>obtain⟨_,e⟩:=x;exact _m e | xd fs=>obtain⟨_,⟨_,_,_,e,_⟩,_⟩:=x;exact _m e | rng lo hi=>obtain⟨_,_,_,e⟩:=x;exact _m e | frz ob u=>obtain⟨e,_⟩:=x;exact _m e | tbl ps=>exact _m (show h.get? a=some _ from x) | met f y=>exact _m (show h.get? a=some _ from x) | ext φ=>obtain⟨_,⟨_,e⟩,_⟩:=x;exact _m e
theorem Paired.mapP{α β:Type}{F G:α->β->Prop}:∀{l₁:List α}{l₂:List β},Paired F l₁ l₂->(∀a b,F a b->G a b)->Paired G l₁ l₂
 | _,_,.nil,_=>.nil | _,_,.cons r t,f=>.cons (f _ _ r) (Paired.mapP t f)
theorem yM.stay(x:yM P w H h a o)(k:∀b u,(b=a\/H b=some (.own a))->h.get? b=some u->h'.get? b=some u) (ho:∀b,H b=some (.own a)->H' b=some (.own a))(ht:∀b xs,H b=some (.tup xs)->H' b=some (.tup xs)):yM P w H' h' a o:=by induction o with
 | lst xs=>obtain⟨z,its,n,r,e⟩:=x;exact⟨z,its,n,r,k _ _ (.inl rfl) e⟩ | tup xs=>obtain⟨z,its,r,ob,e,c⟩:=x;exact⟨z,its,r,ob,k _ _ (.inl rfl) e,c⟩ | dK kvs=>obtain⟨z,y,vs,r,ob,es,ep,e,c⟩:=x;exact⟨z,y,vs,r,ob,es,ep,k _ _ (.inl rfl) e,c⟩ | dT kvs=>
  obtain⟨z,y,xs,r,ob,es,ep,e,c⟩:=x;exact⟨z,y,xs,Paired.mapP r λp q z=>⟨z.1,ht _ _ z.2.1,z.2.2⟩,ob,es,ep,k _ _ (.inl rfl) e,c⟩ | set S n=>obtain⟨ob,es,ep,t,e,c⟩:=x;exact⟨ob,es,ep,t,k _ _ (.inl rfl) e,c⟩ | ins C dx fs=>
  obtain⟨d,z,ne,e,mA,⟨od,es,ep,e2,c⟩,r⟩:=x;exact⟨ho _ d,z,ne,k _ _ (.inl rfl) e,mA,⟨od,es,ep,k _ _ (.inr d) e2,c⟩,r⟩ | own y=>obtain⟨ob,e⟩:=x;exact⟨ob,k _ _ (.inl rfl) e⟩ | xd fs=>obtain⟨mA,⟨od,es,ep,e,c⟩,r⟩:=x;exact⟨mA,⟨od,es,ep,k _ _ (.inl rfl) e,c⟩,r⟩ | rng lo hi=>obtain⟨t,u,v,e⟩:=x;exact⟨t,u,v,k _ _ (.inl rfl) e⟩ | frz ob u ih=>obtain⟨e,q⟩:=x;exact⟨k _ _ (.inl rfl) e,ih q⟩ | tbl ps=>
  have e:h.get? a=some {cls:=.none,data:=.fields ps}:=x;show h'.get? a=some {cls:=.none,data:=.fields ps};exact k a _ (.inl rfl) e | met f y=>
  have e:h.get? a=some (W.methodObj (.ref f) (.ref y)):=x;show h'.get? a=some (W.methodObj (.ref f) (.ref y));exact k a _ (.inl rfl) e | ext φ=>obtain⟨p,⟨o,e⟩,st⟩:=x;exact⟨st _ _ p λo q=>k _ _ (.inl rfl) q,⟨o,k _ _ (.inl rfl) e⟩,st⟩
theorem HOk.lt(x:HOk P w H h)(e:H a=some o):a<h.objs.size:=(x a o e).lt
theorem HOk.fresh(x:HOk P w H h)(e:h.objs.size<=a):H a=none:=by cases q:H a with
 | none=>rfl | some u=>exact absurd (_p (x.lt q) e) (_al _)
theorem HOk.kept(x:HOk P w H h)(k:∀b u,h.get? b=some u->h'.get? b=some u):HOk P w H h':=λa o e=> (x a o e).stay (λb u _ q=>k b u q) (λ_ q=>q) λ_ _ q=>q
theorem HOk.laid(x:HOk P w H h)(k:∀b u,h.get? b=some u->h'.get? b=some u)(hp:h.objs.size<=a)(new:yM P w (upd H a o) h' a o):HOk P w (upd H a o) h':=λb u e=>by
 have hn:=x.fresh hp;by_cases hb:b=a;·subst hb;rw[zN]at e;cases e;exact new
 ·rw[zE hb]at e;exact (x b u e).stay (λc v _ q=>k c v q) (λc q=>by rw[zE (yD q hn)];exact q) λc xs q=>by rw[zE (yD q hn)];exact q
end
def Rd(H:Hp)(a:Addr)(u:HO):Prop:=H a=some u\/∃o,H a=some (.frz o u)
theorem Rd.ok{P:Program}{w:World}{H:Hp}{h:Heap}{a:Addr}{u:HO}(r:Rd H a u)(x:HOk P w H h):yM P w H h a u:=by
 rcases r with r | ⟨o,r⟩;·exact x a u r
 ·obtain⟨_,q⟩:=x a _ r;exact q
def Mut:Option HO->Prop
 | some (.lst _)=>True | some (.dK _)=>True | some (.dT _)=>True | some (.set _ _)=>True | some (.ins _ _ _)=>True | some (.ext _)=>True | _=>False
section
variable {P:Program}{w:World}{H:Hp}{h h':Heap}{x e:Addr}{o':HO}
theorem HOk.write(ok:HOk P w H h)(mu:Mut (H x))(he:e=x\/H e=some (.own x))(k:∀b u,b≠e->h.get? b=some u->h'.get? b=some u)(heo:∃u,h'.get? e=some u) (new:yM P w (upd H x o') h' x o'):HOk P w (upd H x o') h':=λb u q=>by
 have nown:∀c y,H c=some (.own y)->c≠x:=λc y r z=>by subst z;rw[r]at mu;exact mu
 have ntup:∀c xs,H c=some (.tup xs)->c≠x:=λc xs r z=>by subst z;rw[r]at mu;exact mu
 by_cases hb:b=x;·subst hb;rw[zN]at q;cases q;exact new
 ·rw[zE hb]at q;by_cases hbe:b=e
  ·have q':H b=some (.own x):=by
    rcases he with z | z;·exact absurd (hbe.trans z) hb
    ·rw[hbe];exact z
   rw[q]at q';cases q';obtain⟨v,hv⟩:=heo;exact⟨v,by rw[hbe];exact hv⟩
  ·refine (ok b u q).stay (λc v hc r=>k c v ?_ r) (λc r=>by rw[zE (nown c b r)];exact r) λc xs r=>by rw[zE (ntup c xs r)];exact r
   rcases hc with rfl | hc;·exact hbe
   ·rintro rfl;rcases he with z | z;·exact nown c b hc z
    ·rw[hc]at z;cases z;exact hb rfl
end
structure Un(fs ex:List Addr)(H H':Hp)(h h':Heap):Prop where
 keep:∀b o,h.get? b=some o->H b=none->b∉fs->b∉ex->h'.get? b=some o
 slot:∀b o,h.get? b=some o->H b=none->b∈fs->b∉ex->∃sl,h'.get? b=some {o with slots:=sl}
 free:∀b o,h.get? b=some o->H b=none->b∉ex->H' b=none
 there:∀b o,h.get? b=some o->b∉ex->∃o',h'.get? b=some o'
 tups:∀b xs,H b=some (.tup xs)->H' b=some (.tup xs)
 frzs:∀b o u,H b=some (.frz o u)->H' b=some (.frz o u)
 tbls:∀b ps,H b=some (.tbl ps)->∃more,H' b=some (.tbl (ps++more))
section
variable {fs fs' ex ex':List Addr}{H H1 H2:Hp}{h h1 h2 h':Heap}{a x e:Addr}{o:HO}
theorem Un.any(u:Un fs ex H H1 h h1){b:Addr}{ob:Obj}(q:h.get? b=some ob)(n:H b=none)(hx:b∉ex):∃sl,h1.get? b=some {ob with slots:=sl}:=by
 by_cases hb:b∈fs;·exact u.slot b ob q n hb hx
 ·exact⟨ob.slots,u.keep b ob q n hb hx⟩
theorem Un.kept(k:∀b u,h.get? b=some u->h'.get? b=some u):Un fs ex H H h h':= ⟨λb ob q _ _ _=>k b ob q,λb ob q _ _ _=>⟨ob.slots,k b ob q⟩,λ_ _ _ n _=>n,λb ob q _=>⟨ob,k b ob q⟩,λ_ _ q=>q,λ_ _ _ q=>q,λ_ ps q=>⟨#[],by rw[q];simp⟩⟩
theorem Un.refl:Un fs ex H H h h:=Un.kept λ_ _ q=>q
theorem Un.laid(k:∀b u,h.get? b=some u->h'.get? b=some u)(hp:h.objs.size<=a)(hn:H a=none):Un fs ex H (upd H a o) h h' where
 keep:=λb u q _ _ _=>k b u q;slot:=λb u q _ _ _=>⟨u.slots,k b u q⟩;free:=λb u q n _=>by rw[zE (_y (_p (_m q) hp))];exact n
 there:=λb u q _=>⟨u,k b u q⟩;tups:=λb xs q=>by rw[zE (yD q hn)];exact q
 frzs:=λb u xs q=>by rw[zE (yD q hn)];exact q
 tbls:=λb ps q=>⟨#[],by rw[zE (yD q hn),q];simp⟩
theorem Un.write(mu:Mut (H x))(he:e=x\/H e=some (.own x))(k:∀b u,b≠e->h.get? b=some u->h'.get? b=some u)(heo:∃u,h'.get? e=some u):Un fs ex H (upd H x o) h h':=by
 have hx:∀b,H b=none->b≠x:=λb n z=>by subst z;rw[n]at mu;exact mu
 have hb:∀b,H b=none->b≠e:=λb n z=>by
  subst z;rcases he with r | r;·exact hx b n r
  ·rw[n]at r;cases r
 have hm:∀b u,H b=some u->¬ Mut (some u)->b≠x:=λb u q nm z=>by subst z;rw[q]at mu;exact nm mu
 refine⟨λb u q n _ _=>k b u (hb b n) q,λb u q n _ _=>⟨u.slots,k b u (hb b n) q⟩,λb u q n _=>by rw[zE (hx b n)];exact n,λb u q _=>?_, λb xs q=>by rw[zE (hm b _ q λz=>z)];exact q,λb u xs q=>by rw[zE (hm b _ q λz=>z)];exact q,λb ps q=>⟨#[],by rw[zE (hm b _ q λz=>z),q];simp⟩⟩;by_cases hbe:b=e;·subst hbe;exact heo
 ·exact⟨u,k b u hbe q⟩
end
def trk(h:Heap)(H:Hp):List Addr:=(List.range h.objs.size).filter λa=>(H a).isSome
def zcU(h:Heap)(H:Hp):Heap:=W.hideAll h (trk h H)
theorem z9S(h:Heap)(H:Hp):(zcU h H).objs.size=h.objs.size:=W.hideAll_size _ _
theorem zcS{h:Heap}{H:Hp}{b:Addr}{o:Obj}(e:h.get? b=some o)(n:H b=none):(zcU h H).get? b=some o:= W.hideAll_get _ e λhm=>by
  have q:(H b).isSome=true:=(_bk.mp hm).2;rw[n]at q;simp at q
theorem zgL{h:Heap}{H:Hp}{b:Addr}{o:Obj}(e:(zcU h H).get? b=some o):h.get? b=some o/\H b=none:=by
 have e':h.get? b=some o:=W.of_hideAll (trk h H) e;refine⟨e',?_⟩;cases q:H b with
 | none=>rfl | some x=>
  have hm:b∈trk h H:=_bk.mpr ⟨_aI.mpr (_m e'),by simp[q]⟩;have z:(zcU h H).get? b=none:=W.hideAll_none (trk h H) hm;rw[z]at e;cases e
def zgd(g h:Heap)(L:Addr):List (Addr×Obj):=(List.range h.objs.size).filterMap λa=>if a=L\/(g.get? a).isSome=true then none else (h.get? a).map λo=>(a,o)
def ke(g h:Heap)(L d:Addr):List (Addr×Obj):=(zgd g h L).filter λp=>decide (p.1≠d)
structure Mod(K:W.Frag)(mg:Str->Option Value)(base:Heap):Prop where
 kin:K.In base
 glob:base.Ns mainGlobals mg
 blt:∃mb,base.Ns builtinsNs mb/\∀x:Str,x≠"__name__"->mb x=bootBuiltins x
 nolimit:base.NoLimit
structure Cx where
 prog:Program
 w:World
 K:W.Frag
 mg:Str->Option Value
 base:Heap
 A:Around
 N:List Str
 s₀:Shared
 H₀:Hp
 env:Env
 outer:List Env
 stack:List Env
 ex:List Addr
 fn:Str->Bool
 calm:Bool
 pn:List (Addr×Obj)
 xe:Value->Shared->Prop
def frs(l:List Env):List Addr:=l.filterMap (·.frame)
abbrev Cx.fs(X:Cx):List Addr:=frs X.outer
def Vis(sc:Scope)(x:Str):Prop:=sc.names.lookup x=some .local\/sc.names.lookup x=some .cell\/sc.names.lookup x=some .free
def Loc(sc:Scope)(x:Str):Prop:=sc.names.lookup x=some .local\/sc.names.lookup x=some .cell
def zlI(env:Env)(h:Heap)(m:Str->Option Value)(x:Str)(u:Value):Prop:= (env.kindOf x=some .local/\m x=some u)\/((env.kindOf x=some .cell\/env.kindOf x=some .free)/\∃c,env.cells.lookup x=some c/\h.IsCell c (some u))
structure Cx.Ok(X:Cx):Prop where
 mod:Mod X.K X.mg X.base
 kind:X.env.scope.kind=.function
 glob:X.env.globals=mainGlobals
 blt:X.env.builtins=builtinsNs
 above:X.s₀.heap.objs.size<=X.env.locals
 inj:∀x y c,X.env.cells.lookup x=some c->X.env.cells.lookup y=some c->x=y
 has:∀x,(X.env.kindOf x=some .cell\/X.env.kindOf x=some .free)->∃c,X.env.cells.lookup x=some c
 cab:∀x c,X.fn x=true->X.env.cells.lookup x=some c->X.s₀.heap.objs.size<=c
 hd:X.calm=true->X.A.handled=none
 frames:X.A.frames=some X.stack
 stk:X.stack=X.outer\/(X.stack=X.env::X.outer/\X.env.frame=some X.env.locals)
 exf:∀b∈X.ex,b≠X.env.locals/\∀x c,X.env.cells.lookup x=some c->c≠b
 bs:∀b o,X.base.get? b=some o->X.s₀.heap.get? b=some o/\X.H₀ b=none
 bsz:X.base.objs.size<=X.s₀.heap.objs.size
 noex:∀b o,X.base.get? b=some o->b∉X.ex
 exfs:∀b∈X.ex,b∉X.fs
 funs:X.s₀.heap.FunFrames X.base X.outer
 frf:∀b∈X.fs,X.H₀ b=none
structure Inv(X:Cx)(pins:List (Addr×Obj))(O:List (Option V))(H:Hp)(s:Shared):Prop where
 ok:X.Ok
 os:s.os=X.s₀.os
 bare:AllBare s.gens
 base:Un X.fs X.ex X.H₀ H X.s₀.heap s.heap
 loc:∃m,s.heap.Ns X.env.locals m/\∀(i:Nat)(x:Str)(v:V),X.N[i]? = some x->O[i]? = some (some v)->Vis X.env.scope x->∃u,yr v u/\zlI X.env s.heap m x u
 cell:∀x c,X.env.cells.lookup x=some c->∃v,s.heap.IsCell c v
 free:H X.env.locals=none
 freeC:∀x c,X.env.cells.lookup x=some c->H c=none
 pin:∀p∈X.pn++pins,s.heap.get? p.1=some p.2/\H p.1=none/\p.1≠X.env.locals/\p.1∉X.fs/\∀v,p.2.data≠.cell v
 hok:HOk X.prog X.w H s.heap
 len:O.length=X.N.length
section
variable {X:Cx}{pins:List (Addr×Obj)}{O:List (Option V)}{H H':Hp}{s:Shared}{h':Heap}
theorem Cx.Ok.nofr(ok:X.Ok){b:Addr}{o:Obj}(e:X.base.get? b=some o):b∉X.fs:=λhb=>by
 have:=(ok.funs.mem hb).1;rw[e]at this;cases this
theorem Inv.bs(I:Inv X pins O H s):∀b o,X.base.get? b=some o->s.heap.get? b=some o/\H b=none:=λb o e=> ⟨I.base.keep b o (I.ok.bs b o e).1 (I.ok.bs b o e).2 (I.ok.nofr e) (I.ok.noex b o e),I.base.free b o (I.ok.bs b o e).1 (I.ok.bs b o e).2 (I.ok.noex b o e)⟩
theorem Inv.bk(I:Inv X pins O H s):∀b o,X.base.get? b=some o->s.heap.get? b=some o:=λb o e=>(I.bs b o e).1
theorem Inv.mod(I:Inv X pins O H s):Mod X.K X.mg X.base:=I.ok.mod
theorem Inv.kIn(I:Inv X pins O H s):X.K.In s.heap:=I.ok.mod.kin.keeps I.bk
theorem Inv.fr(I:Inv X pins O H s):∃m,Fr X.base X.env.locals s.heap m:= let ⟨m,hn,_⟩:=I.loc;⟨m,hn,I.bk,_S I.ok.bsz I.ok.above⟩
theorem Inv.lt(I:Inv X pins O H s):X.env.locals<s.heap.objs.size:=let ⟨_,hn,_⟩:=I.loc;hn.lt
theorem Inv.sz(I:Inv X pins O H s):X.s₀.heap.objs.size<=s.heap.objs.size:=_S I.ok.above (_dg I.lt)
theorem Inv.nofs(I:Inv X pins O H s){a:Addr}(h:s.heap.objs.size<=a):a∉X.fs:=λhb=>by
 obtain⟨_,o,ho,_⟩:=I.ok.funs.mem hb;exact absurd (_p (_m ho) (_S I.sz h)) (_al _)
theorem Inv.cne(I:Inv X pins O H s):∀x c,X.env.cells.lookup x=some c->c≠X.env.locals:=λx c e z=>by
 obtain⟨v,o,ho,hd⟩:=I.cell x c e;obtain⟨m,⟨o',es,ep,ho',hd',_⟩,_⟩:=I.loc;rw[z,ho']at ho;cases ho;rw[hd']at hd;cases hd
theorem Inv.funs(I:Inv X pins O H s):s.heap.FunFrames X.base X.outer:=by
 have all:∀(l:List Env),(∀b∈frs l,b∈X.fs)->X.s₀.heap.FunFrames X.base l->s.heap.FunFrames X.base l:=by
  intro l;induction l with
  | nil=>intro _ _;trivial | cons env r ih=>
   intro hs hl;obtain⟨hk,⟨L,o,hf,hn,ho,hd⟩,hr⟩:=hl;have hL:L∈X.fs:=hs L (by unfold frs;rw[_bD,hf];exact _N);obtain⟨sl,e⟩:=I.base.slot L o ho (I.ok.frf L hL) hL λz=>I.ok.exfs L z hL;exact⟨hk,⟨L,_,hf,hn,e,hd⟩,ih (λb hb=>hs b (by unfold frs;rw[_bD,hf];exact _x _ hb)) hr⟩
 exact all X.outer (λ_ hb=>hb) I.ok.funs
theorem Inv.stack(I:Inv X pins O H s):s.heap.FunFrames X.base X.stack:=by
 rcases I.ok.stk with e | ⟨e,hf⟩;·rw[e];exact I.funs
 ·rw[e];obtain⟨m,hn,_⟩:=I.loc;refine .cons (by rw[I.ok.kind];decide) hf hn ?_ I.funs;exact Heap.get?_none_of_le (_S I.ok.bsz I.ok.above)
theorem Inv.stkSub(I:Inv X pins O H s):∀b∈frs X.stack,b∈X.env.locals::X.fs:=λb hb=>by
 rcases I.ok.stk with e | ⟨e,hf⟩;·rw[e]at hb;exact _x _ hb
 ·rw[e]at hb;unfold frs at hb;rw[_bD,hf]at hb;exact hb
theorem Inv.stkFree(I:Inv X pins O H s):∀b∈frs X.stack,H b=none:=λb hb=>by
 rcases _q.mp (I.stkSub b hb) with e | hb;·rw[e];exact I.free
 ·obtain⟨_,o,ho,_⟩:=I.ok.funs.mem hb;exact I.base.free b o ho (I.ok.frf b hb) λz=>I.ok.exfs b z hb
theorem Inv.step{g':Array GenState}{t':Nat}{d':Drawn}{ch:List Addr}(I:Inv X pins O H s) (hch:∀b∈ch,(b∈X.ex\/X.s₀.heap.objs.size<=b)/\b≠X.env.locals/\(∀x c,X.env.cells.lookup x=some c->c≠b)/\∀p∈X.pn++pins,p.1≠b) (keep:∀b o,b≠X.env.locals->b∉X.fs->b∉ch->s.heap.get? b=some o->H b=none->h'.get? b=some o) (slot:∀b o,b≠X.env.locals->b∈X.fs->b∉ch->s.heap.get? b=some o->H b=none->∃sl,h'.get? b=some {o with slots:=sl})(free:∀b o,b∉ch->s.heap.get? b=some o->H b=none->H' b=none) (there:∀b o,b∉ch->s.heap.get? b=some o->∃o',h'.get? b=some o') (tups:∀b xs,H b=some (.tup xs)->H' b=some (.tup xs))(frzs:∀b o u,H b=some (.frz o u)->H' b=some (.frz o u))(tbls:∀b ps,H b=some (.tbl ps)->∃more,H' b=some (.tbl (ps++more))) (ns:∀m,s.heap.Ns X.env.locals m->h'.Ns X.env.locals m)(hok:HOk X.prog X.w H' h')(hg:AllBare g'): Inv X pins O H' {s with heap:=h',gens:=g',drawn:=d',toks:=t'}:=by
 have neL:∀b o,X.s₀.heap.get? b=some o->b≠X.env.locals:=λb o e=>_y (_p (_m e) I.ok.above);have neC:∀b o,X.s₀.heap.get? b=some o->b∉X.ex->b∉ch:=λb o e hx hb=>by
  rcases (hch b hb).1 with z | z;·exact hx z
  ·exact absurd (_p (_m e) z) (_al _)
 have cellK:∀x c,X.env.cells.lookup x=some c->∀v,s.heap.IsCell c v->h'.IsCell c v:=λx c e v ⟨o,ho,hd⟩=>by
  have nch:c∉ch:=λz=>(hch c z).2.2.1 x c e rfl;by_cases hc:c∈X.fs
  ·obtain⟨sl,q⟩:=slot c o (I.cne x c e) hc nch ho (I.freeC x c e);exact⟨_,q,hd⟩
  ·exact⟨o,keep c o (I.cne x c e) hc nch ho (I.freeC x c e),hd⟩
 refine⟨I.ok,I.os,hg,⟨λb o e n hb hx=>?_,λb o e n hb hx=>?_,λb o e n hx=>?_,λb o e hx=>?_,λb xs e=>tups b xs (I.base.tups b xs e),λb o xs e=>frzs b o xs (I.base.frzs b o xs e),λb ps e=>?_⟩,?_,λx c e=>?_,?_,λx c e=>?_,λp hp=>?_,hok,I.len⟩;·exact keep b o (neL b o e) hb (neC b o e hx) (I.base.keep b o e n hb hx) (I.base.free b o e n hx)
 ·obtain⟨sl,e1⟩:=I.base.slot b o e n hb hx;obtain⟨sl',e2⟩:=slot b _ (neL b o e) hb (neC b o e hx) e1 (I.base.free b o e n hx);exact⟨sl',e2⟩
 ·obtain⟨o',e1⟩:=I.base.there b o e hx;exact free b o' (neC b o e hx) e1 (I.base.free b o e n hx)
 ·obtain⟨o',e1⟩:=I.base.there b o e hx;exact there b o' (neC b o e hx) e1
 ·obtain⟨m1,e1⟩:=I.base.tbls b ps e;obtain⟨m2,e2⟩:=tbls b _ e1;exact⟨m1++m2,by rw[e2,Array.append_assoc]⟩
 ·obtain⟨m,hn,hl⟩:=I.loc;refine⟨m,ns m hn,λi x v e1 e2 e3=>?_⟩;obtain⟨u,r,l⟩:=hl i x v e1 e2 e3;refine⟨u,r,?_⟩;rcases l with l | ⟨k,c,e,z⟩;·exact .inl l
  ·exact .inr ⟨k,c,e,cellK x c e _ z⟩
 ·obtain⟨v,z⟩:=I.cell x c e;exact⟨v,cellK x c e v z⟩
 ·obtain⟨m,⟨o,_,_,ho,_⟩,_⟩:=I.loc;exact free _ o (λz=>(hch _ z).2.1 rfl) ho I.free
 ·obtain⟨v,o,ho,hd⟩:=I.cell x c e;exact free c o (λz=>(hch c z).2.2.1 x c e rfl) ho (I.freeC x c e)
 ·obtain⟨e,n,ne,nf,d⟩:=I.pin p hp;have nch:p.1∉ch:=λz=>(hch p.1 z).2.2.2 p hp rfl;exact⟨keep p.1 p.2 ne nf nch e n,free p.1 p.2 nch e n,ne,nf,d⟩
theorem Inv.un {t':Nat} (I:Inv X pins O H s) (u:Un X.fs [] H H' s.heap h') (hok:HOk X.prog X.w H' h'):Inv X pins O H' {s with heap:=h',toks:=t'}:=by
 obtain⟨m,⟨o,es,ep,ho,r⟩,_⟩:=id I.loc;obtain⟨sl,hL⟩:=u.any ho I.free (by simp);exact I.step (g':=s.gens) (d':=s.drawn) (ch:=[]) (λ_ z=>nomatch z) (λb o _ hb _ e n=>u.keep b o e n hb (by simp)) (λb o _ hb _ e n=>u.slot b o e n hb (by simp)) (λb o _ e n=>u.free b o e n (by simp)) (λb o _ e=>u.there b o e (by simp)) u.tups u.frzs u.tbls (λm' hm=>by
  obtain⟨o',es',ep',ho',r'⟩:=hm;rw[ho]at ho';cases ho';exact⟨_,es',ep',hL,r'⟩) hok I.bare
theorem Inv.call{g':Array GenState}{t':Nat}{d':Drawn}{ch:List Addr}(I:Inv X pins O H s)(u:Un (frs X.stack) ch H H' s.heap h')(hok:HOk X.prog X.w H' h')(hg:AllBare g') (hch:∀b∈ch,(b∈X.ex\/X.s₀.heap.objs.size<=b)/\b≠X.env.locals/\(∀x c,X.env.cells.lookup x=some c->c≠b)/\∀p∈X.pn++pins,p.1≠b): Inv X pins O H' {s with heap:=h',gens:=g',drawn:=d',toks:=t'}:=by
 obtain⟨m,⟨o,es,ep,ho,r⟩,_⟩:=id I.loc;obtain⟨sl,hL⟩:=u.any ho I.free λz=>(hch _ z).2.1 rfl;exact I.step (ch:=ch) hch (λb o hL hb hc e n=>u.keep b o e n (λz=>(_q.mp (I.stkSub b z)).elim hL hb) hc) (λb o _ _ hc e n=>u.any e n hc) (λb o hc e n=>u.free b o e n hc) (λb o hc e=>u.there b o e hc) u.tups u.frzs u.tbls (λm' hm=>by
  obtain⟨o',es',ep',ho',r'⟩:=hm;rw[ho]at ho';cases ho';exact⟨_,es',ep',hL,r'⟩) hok hg
theorem Inv.turned {t':Nat} {it:Addr} (I:Inv X pins O H s) (k:∀b o,b≠it->s.heap.get? b=some o->h'.get? b=some o) (hn:H it=none) (hL:it≠X.env.locals) (h1:it∈X.ex\/X.s₀.heap.objs.size<=it) (h2:∀x c,X.env.cells.lookup x=some c->c≠it) (h3:∀p∈X.pn++pins,p.1≠it):Inv X pins O H {s with heap:=h',toks:=t'}:=by
 have nit:∀b u,H b=some u->b≠it:=λb u e z=>by rw[z,hn]at e;cases e
 refine I.step (g':=s.gens) (d':=s.drawn) (ch:=[it]) (λb hb=>?_) (λb o _ _ hc e _=>k b o (λz=>hc (by simp[z])) e) (λb o _ _ hc e _=>⟨o.slots,k b o (λz=>hc (by simp[z])) e⟩) (λ_ _ _ _ n=>n) (λb o hc e=>⟨o,k b o (λz=>hc (by simp[z])) e⟩) (λ_ _ e=>e) (λ_ _ _ e=>e) (λb ps e=>⟨#[],by rw[e];simp⟩) (λm hm=>?_) (λb u e=>?_) I.bare
 ·have e:b=it:=by simpa using hb
  subst e;exact⟨h1,hL,h2,h3⟩
 ·obtain⟨o,es,ep,ho,r⟩:=hm;exact⟨o,es,ep,k _ o (_aM hL) ho,r⟩
 ·refine (I.hok b u e).stay (λc v hc q=>k c v ?_ q) (λ_ q=>q) λ_ _ q=>q;rcases hc with z | z;·rw[z];exact nit b u e
  ·exact nit c _ z
theorem Inv.tok (I:Inv X pins O H s) (t:Nat):Inv X pins O H {s with toks:=t}:=I.un (h':=s.heap) (t':=t) Un.refl I.hok
theorem Inv.kept{t':Nat}(I:Inv X pins O H s)(k:∀b u,s.heap.get? b=some u->h'.get? b=some u):Inv X pins O H {s with heap:=h',toks:=t'}:=I.un (Un.kept k) (I.hok.kept k)
theorem Inv.laid {a:Addr} {o:HO} {t':Nat} (I:Inv X pins O H s) (k:∀b u,s.heap.get? b=some u->h'.get? b=some u) (hp:s.heap.objs.size<=a) (new:yM X.prog X.w (upd H a o) h' a o): Inv X pins O (upd H a o) {s with heap:=h',toks:=t'}:=I.un (Un.laid k hp (I.hok.fresh hp)) (I.hok.laid k hp new)
theorem Inv.write {x e:Addr} {o:HO} {t':Nat} (I:Inv X pins O H s) (mu:Mut (H x)) (he:e=x\/H e=some (.own x)) (k:∀b u,b≠e->s.heap.get? b=some u->h'.get? b=some u) (heo:∃u,h'.get? e=some u) (new:yM X.prog X.w (upd H x o) h' x o):Inv X pins O (upd H x o) {s with heap:=h',toks:=t'}:=I.un (Un.write mu he k heo) (I.hok.write mu he k heo new)
theorem Inv.weak{O':List (Option V)}(I:Inv X pins O H s)(hl:O'.length=O.length)(w:∀(i:Nat) v,O'[i]? = some (some v)->O[i]? = some (some v)):Inv X pins O' H s:= ⟨I.ok,I.os,I.bare,I.base,let ⟨m,hn,hl'⟩:=I.loc;⟨m,hn,λi x v e1 e2 e3=>hl' i x v e1 (w i v e2) e3⟩,I.cell,I.free,I.freeC,I.pin,I.hok,hl.trans I.len⟩
theorem Inv.pins_of{pins':List (Addr×Obj)}(I:Inv X pins O H s)(h:∀p∈pins',s.heap.get? p.1=some p.2/\H p.1=none/\p.1≠X.env.locals/\p.1∉X.fs/\∀v,p.2.data≠.cell v):Inv X pins' O H s:= ⟨I.ok,I.os,I.bare,I.base,I.loc,I.cell,I.free,I.freeC,λp hp=>(_H.mp hp).elim (λz=>I.pin p (_af _ z)) (h p),I.hok,I.len⟩
theorem z7X{N:List Str}(hN:N.Nodup){i j:Nat}{x:Str}(a:N[i]? = some x)(b:N[j]? = some x):i=j:=by
 obtain⟨h1,e1⟩:=_c.mp a;obtain⟨h2,e2⟩:=_c.mp b;exact (_b8 hN).mp (e1.trans e2.symm)
theorem z06{M:Model}{A:Around}{E:Value->Shared->Prop}{i:Nat}{x:Str}{v:V}{u:Value}{Q:Unit->Shared->Prop}(I:Inv X pins O H s)(hN:X.N.Nodup)(hi:X.N[i]? = some x)(hx:Loc X.env.scope x)(r:yr v u) (h:∀s',Inv X pins (O.set i (some v)) H s'->(∃a,Heap.SameBut a s.heap s'.heap/\(a=X.env.locals\/X.env.cells.lookup x=some a))->Q () s')(hf:X.fn x=true\/X.env.scope.names.lookup x=some .local:=by first | exact .inl rfl | exact .inr rfl | assumption):wpAny M A (storeName X.env x u) Q E s:=by
 obtain⟨m,hn,hl⟩:=id I.loc;have hcls:(X.env.scope.kind==.class||(X.env.scope.kind==.module&&X.env.locals != X.env.globals))=false:=by rw[I.ok.kind];rfl
 have hiO:i<O.length:=by rw[I.len];exact (_c.mp hi).1
 have cne:=I.cne;have tracked:∀{a:Addr}{h':Heap},(∃o,s.heap.get? a=some o/\H a=none)->Heap.SameBut a s.heap h'->HOk X.prog X.w H h':=λ{a h'} ha hs b ob e=>by
  obtain⟨_,_,hfree⟩:=ha;refine (I.hok b ob e).stay (λc w' hc q=>(hs.2 c ?_).trans q) (λ_ q=>q) λ_ _ q=>q;rintro rfl;rcases hc with rfl | hc;·rw[hfree]at e;cases e
  ·rw[hfree]at hc;cases hc
 rcases hx with hk | hk
 ·refine wpAny_storeName_local hk hn (λh' hn' hs=>?_) hcls;obtain⟨oL,_,_,hoL,_⟩:=id hn;refine h _ ⟨I.ok,I.os,I.bare,⟨λb o e n hb hx=>?_,λb o e n hb hx=>?_,I.base.free,λb o e hx=>?_,I.base.tups,I.base.frzs,I.base.tbls⟩,⟨_,hn',λj y v' e1 e2 e3=>?_⟩,λy c e=>?_,I.free,I.freeC,λp hp=>?_,tracked ⟨oL,hoL,I.free⟩ hs,by simpa using I.len⟩ ⟨_,hs,.inl rfl⟩;·exact (hs.2 b (_y (_p (_m e) I.ok.above))).trans (I.base.keep b o e n hb hx)
  ·obtain⟨sl,e1⟩:=I.base.slot b o e n hb hx;exact⟨sl,(hs.2 b (_y (_p (_m e) I.ok.above))).trans e1⟩
  ·obtain⟨o',e1⟩:=I.base.there b o e hx;exact⟨o',(hs.2 b (_y (_p (_m e) I.ok.above))).trans e1⟩
  ·by_cases hj:j=i
   ·subst hj;rw[hi]at e1;cases e1;rw[_L hiO]at e2;cases e2;exact⟨u,r,.inl ⟨hk,by simp⟩⟩
   ·rw[_B (_aM hj)]at e2;obtain⟨u',r',q⟩:=hl j y v' e1 e2 e3;refine⟨u',r',?_⟩;rcases q with⟨k,e⟩ | ⟨k,c,e,z⟩
    ·refine .inl ⟨k,?_⟩;have:y≠x:=λe=>hj (z7X hN e1 (e ▸ hi));simp[this,e]
    ·exact .inr ⟨k,c,e,z.sameBut hs (cne y c e)⟩
  ·obtain⟨w',z⟩:=I.cell y c e;exact⟨w',z.sameBut hs (cne y c e)⟩
  ·obtain⟨e,n,ne,nf,d⟩:=I.pin p hp;exact⟨(hs.2 p.1 ne).trans e,n,ne,nf,d⟩
 ·have hfn:X.fn x=true:=by
   rcases hf with z | z;·exact z
   ·rw[z]at hk;cases hk
  obtain⟨c,hc⟩:=I.ok.has x (.inl hk);obtain⟨w',z⟩:=I.cell x c hc;refine wpAny_storeName_cell I.ok.kind hk hc z (λh' hc' hs=>?_);obtain⟨oc,hoc,hocd⟩:=id z;refine h {s with heap:=h'} ⟨I.ok,I.os,I.bare,⟨λb o e n hb hx=>?_,λb o e n hb hx=>?_,I.base.free,λb o e hx=>?_,I.base.tups,I.base.frzs,I.base.tbls⟩,⟨m,hn.sameBut hs (_aM (cne x c hc)),λj y v' e1 e2 e3=>?_⟩,λy c' e=>?_,I.free,I.freeC,λp hp=>?_,tracked ⟨oc,hoc,I.freeC x c hc⟩ hs,by simpa using I.len⟩ ⟨c,hs,.inr hc⟩;·exact (hs.2 b (_y (_p (_m e) (I.ok.cab x c hfn hc)))).trans (I.base.keep b o e n hb hx)
  ·obtain⟨sl,e1⟩:=I.base.slot b o e n hb hx;exact⟨sl,(hs.2 b (_y (_p (_m e) (I.ok.cab x c hfn hc)))).trans e1⟩
  ·obtain⟨o',e1⟩:=I.base.there b o e hx;exact⟨o',(hs.2 b (_y (_p (_m e) (I.ok.cab x c hfn hc)))).trans e1⟩
  ·by_cases hj:j=i
   ·subst hj;rw[hi]at e1;cases e1;rw[_L hiO]at e2;cases e2;exact⟨u,r,.inr ⟨.inl hk,c,hc,hc'⟩⟩
   ·rw[_B (_aM hj)]at e2;obtain⟨u',r',q⟩:=hl j y v' e1 e2 e3;refine⟨u',r',?_⟩;rcases q with q | ⟨k,c',e,z'⟩;·exact .inl q
    ·refine .inr ⟨k,c',e,z'.sameBut hs ?_⟩;rintro rfl;exact hj (z7X hN e1 (I.ok.inj _ _ _ e hc ▸ hi))
  ·by_cases hcc:c'=c;·subst hcc;exact⟨_,hc'⟩
   ·obtain⟨w2,z2⟩:=I.cell y c' e;exact⟨w2,z2.sameBut hs hcc⟩
  ·obtain⟨e,n,ne,nf,d⟩:=I.pin p hp;refine⟨(hs.2 p.1 ?_).trans e,n,ne,nf,d⟩;intro q;rw[q,hoc]at e;have q':oc=p.2:=_K e;exact d w' (by rw[<- q'];exact hocd)
theorem jx{M:Model}{A:Around}{E:Value->Shared->Prop}{i:Nat}{x:Str}{v:V}{u:Value}{Q:Unit->Shared->Prop}(I:Inv X pins O H s)(hN:X.N.Nodup)(hi:X.N[i]? = some x)(hx:Loc X.env.scope x)(r:yr v u) (h:∀s',Inv X pins (O.set i (some v)) H s'->Q () s')(hf:X.fn x=true\/X.env.scope.names.lookup x=some .local:=by first | exact .inl rfl | exact .inr rfl | assumption):wpAny M A (storeName X.env x u) Q E s:= z06 I hN hi hx r (λs' I' _=>h s' I') hf
theorem Inv.call' {s':Shared} {ch:List Addr} (I:Inv X pins O H s) (ho:s'.os=s.os) (u:Un (frs X.stack) ch H H' s.heap s'.heap) (hok:HOk X.prog X.w H' s'.heap) (hg:AllBare s'.gens) (hch:∀b∈ch,(b∈X.ex\/X.s₀.heap.objs.size<=b)/\b≠X.env.locals/\(∀x c,X.env.cells.lookup x=some c->c≠b)/\∀p∈X.pn++pins,p.1≠b):Inv X pins O H' s':=by
 obtain⟨h',g',d',t',o'⟩:=s';have e:o'=s.os:=ho;subst e;exact I.call (g':=g') (t':=t') (d':=d') u hok hg hch
end
abbrev XK:=Value->Option Addr->Hp->Prop
abbrev St:=List (Option V)
abbrev VK:=V->Hp->Prop
abbrev TE:=St->Hp->VK->Prop
abbrev TT:=St->Hp->(Bool->Hp->Prop)->Prop
abbrev TA:=St->Hp->(List V->Hp->Prop)->Prop
structure zfP where
 nx:St->Hp->Prop
 rt:VK
 bk:St->Hp->Prop:=λ_ _=>False
 ct:St->Hp->Prop:=λ_ _=>False
abbrev TS:=zfP->St->Hp->Prop
def EP(X:Cx)(pins:List (Addr×Obj))(O:St)(Q:VK)(u:Value)(s':Shared):Prop:=∃v H',Inv X pins O H' s'/\yr v u/\Q v H'
def TP(X:Cx)(pins:List (Addr×Obj))(O:St)(Q:Bool->Hp->Prop)(b:Bool)(s':Shared):Prop:=∃H',Inv X pins O H' s'/\Q b H'
def AP(X:Cx)(pins:List (Addr×Obj))(O:St)(Q:List V->Hp->Prop)(us:List Value)(s':Shared):Prop:=∃vs H',Inv X pins O H' s'/\yw vs us/\Q vs H'
def SP(X:Cx)(pins:List (Addr×Obj))(D:zfP)(f:Flow)(s':Shared):Prop:= match f with
 | .next=>∃O' H',Inv X pins O' H' s'/\D.nx O' H' | .brk=>∃O' H',Inv X pins O' H' s'/\D.bk O' H' | .cont=>∃O' H',Inv X pins O' H' s'/\D.ct O' H' | .ret u=>∃v O' H',Inv X pins O' H' s'/\yr v u/\D.rt v H'
def PE(X:Cx)(e:Expr)(t:TE):Prop:= ∀(pins:List (Addr×Obj))(s:Shared)(O:St)(H:Hp)(Q:VK),Inv X pins O H s->t O H Q->wpAny (model X.prog X.w) X.A (eval e X.env) (EP X pins O Q) X.xe s
def PT(X:Cx)(e:Expr)(t:TT):Prop:= ∀(pins:List (Addr×Obj))(s:Shared)(O:St)(H:Hp)(Q:Bool->Hp->Prop),Inv X pins O H s->t O H Q->wpAny (model X.prog X.w) X.A (isTrue e X.env (eval e X.env)) (TP X pins O Q) X.xe s
def PW(X:Cx)(e:Expr)(t:TT):Prop:= ∀(whole:Sem Value)(pins:List (Addr×Obj))(s:Shared)(O:St)(H:Hp)(Q:Bool->Hp->Prop),Inv X pins O H s->t O H Q->wpAny (model X.prog X.w) X.A (isTrue e X.env whole) (TP X pins O Q) X.xe s
theorem PW.pt{X:Cx}{e:Expr}{t:TT}(h:PW X e t):PT X e t:=h _
def PA(X:Cx)(es:List Expr)(t:TA):Prop:= ∀(pos:Pos)(pins:List (Addr×Obj))(s:Shared)(O:St)(H:Hp)(Q:List V->Hp->Prop),Inv X pins O H s->t O H Q->wpAny (model X.prog X.w) X.A (spliced (backTo pos (starEach es X.env))) (AP X pins O Q) X.xe s
def PS(X:Cx)(st:Stmt)(t:TS):Prop:= ∀(pins:List (Addr×Obj))(s:Shared)(O:St)(H:Hp)(D:zfP),Inv X pins O H s->t D O H->wpAny (model X.prog X.w) X.A (exec st X.env) (SP X pins D) X.xe s
def PSs(X:Cx)(st:List Stmt)(t:TS):Prop:= ∀(pins:List (Addr×Obj))(s:Shared)(O:St)(H:Hp)(D:zfP),Inv X pins O H s->t D O H->wpAny (model X.prog X.w) X.A (execs st X.env) (SP X pins D) X.xe s
theorem thn{α:Type}{t:Sem α}{Q Q':α->Shared->Prop}{M:Model}{A:Around}{E:Value->Shared->Prop}{s:Shared}(h:wpAny M A t Q E s)(hQ:∀a s,Q a s->Q' a s):wpAny M A t Q' E s:=_r h hQ λ_ _ x=>x
section
variable {X:Cx}
theorem bin{a b:Expr}{ta tb:TE}(ha:PE X a ta)(hb:PE X b tb){pins:List (Addr×Obj)}{s:Shared}{O:St}{H:Hp}{R:V->V->Hp->Prop}(I:Inv X pins O H s)(h:ta O H λx H1=>tb O H1 λy H2=>R x y H2) {α:Type}{Q:α->Shared->Prop}{f:Value->Value->Sem α} (hf:∀v u s2 x y H2,Inv X pins O H2 s2->yr x v->yr y u->R x y H2->wpAny (model X.prog X.w) X.A (f v u) Q X.xe s2): wpAny (model X.prog X.w) X.A (eval a X.env) (λv s₁=>wpAny (model X.prog X.w) X.A (eval b X.env) (λu s₂=>wpAny (model X.prog X.w) X.A (f v u) Q X.xe s₂) X.xe s₁) X.xe s:=by
 refine thn (ha pins s O H _ I h) λv s1 ⟨x,H1,I1,r1,q1⟩=>?_;refine thn (hb pins s1 O H1 _ I1 q1) λu s2 ⟨y,H2,I2,r2,q2⟩=>?_;exact hf v u s2 x y H2 I2 r1 r2 q2
def zlq(i:Nat):TE:=λO H Q=>∃v,O[i]? = some (some v)/\Q v H
def tC(v:V):TE:=λ_ H Q=>Q v H
theorem zaM{i:Nat}{x:Str}{pos:Pos}(hN:X.N[i]? = some x)(hv:Vis X.env.scope x)(hd:(x==("__debug__":Str))=false:=by decide)(hcd:(x==("__classdict__":Str))=false:=by decide):PE X (.Name x pos) (zlq i):=by
 intro pins s O H Q I h;obtain⟨v,e,h⟩:=h;obtain⟨m,hn,hl⟩:=I.loc;obtain⟨u,r,l⟩:=hl i x v hN e hv;have fin:EP X pins O Q u s:=⟨v,H,I,r,h⟩;rcases l with⟨hk,hm⟩ | ⟨hk,c,hc,hcell⟩;·exact wpAny_Name (wpAny_loadName_local I.ok.kind hk hn hm fin) hd
 ·rcases hk with hk | hk;·exact wpAny_Name (wpAny_loadName_cell I.ok.kind hk hc hcell fin) hd
  ·exact wpAny_Name (wpAny_loadName_free I.ok.kind hk hc hcell fin hcd) hd
theorem zeE{i j pos}:PE X (.Constant (.int i) j pos) (tC (.int i)):=λ_ _ _ H _ I h=>wpAny_Constant_int ⟨.int i,H,I.tok _,⟨_,rfl⟩,h⟩
theorem zkA{b j pos}:PE X (.Constant (.bool b) j pos) (tC (.bl b)):=λ_ _ _ H _ I h=>Constant_bool ⟨.bl b,H,I,rfl,h⟩
theorem ziu{j pos}:PE X (.Constant .none j pos) (tC .non):=λ_ _ _ H _ I h=>Constant_none ⟨.non,H,I,rfl,h⟩
theorem zei{x j pos}:PE X (.Constant (.str x) j pos) (tC (.str x)):=λ_ _ _ H _ I h=>Calls.Constant_str ⟨.str x,H,I.tok _,⟨_,rfl⟩,h⟩
def Gl(X:Cx)(x:Str):Prop:=X.env.kindOf x=some .globalImplicit
theorem z0D{E:Value->Shared->Prop}{pins:List (Addr×Obj)}{s:Shared}{O:St}{H:Hp}{x:Str}{u:Value}{pos:Pos}{Q:Value->Shared->Prop}(I:Inv X pins O H s)(hg:Gl X x)(hm:X.mg x=some u)(h:Q u s) (hd:(x==("__debug__":Str))=false:=by decide):wpAny (model X.prog X.w) X.A (eval (.Name x pos) X.env) Q E s:= Calls.Name_function_global I.ok.kind hg (Calls.loadGlobal_global (by rw[I.ok.glob];exact I.mod.glob.keeps I.bk) hm h) hd
theorem z0a{E:Value->Shared->Prop}{pins:List (Addr×Obj)}{s:Shared}{O:St}{H:Hp}{x:Str}{u:Value}{pos:Pos}{Q:Value->Shared->Prop}(I:Inv X pins O H s)(hg:Gl X x)(hm:X.mg x=none)(hv:bootBuiltins x=some u)(h:Q u s) (hn:x≠"__name__":=by decide)(hd:(x==("__debug__":Str))=false:=by decide):wpAny (model X.prog X.w) X.A (eval (.Name x pos) X.env) Q E s:=by
 obtain⟨mb,h1,h2⟩:=I.mod.blt;exact Calls.Name_function_global I.ok.kind hg (Calls.loadGlobal_builtin (by rw[I.ok.glob];exact I.mod.glob.keeps I.bk) hm (by rw[I.ok.blt];exact h1.keeps I.bk) ((h2 x hn).trans hv) h) hd
theorem z2z{x:Str}{v:V}{u:Value}{pos:Pos}(hg:Gl X x)(hm:X.mg x=some u)(r:yr v u)(hd:(x==("__debug__":Str))=false:=by decide):PE X (.Name x pos) (tC v):= λ_ _ _ H _ I h=>z0D I hg hm ⟨v,H,I,r,h⟩ hd
theorem zaS{x:Str}{v:V}{u:Value}{pos:Pos}(hg:Gl X x)(hm:X.mg x=none)(hv:bootBuiltins x=some u)(r:yr v u)(hn:x≠"__name__":=by decide)(hd:(x==("__debug__":Str))=false:=by decide):PE X (.Name x pos) (tC v):= λ_ _ _ H _ I h=>z0a I hg hm hv ⟨v,H,I,r,h⟩ hn hd
variable {a b:Expr}{ta tb:TE}{pos:Pos}
def PC(X:Cx)(op:CmpOp)(a b:Expr)(t:TE):Prop:= ∀(pins:List (Addr×Obj))(s:Shared)(O:St)(H:Hp)(Q:VK),Inv X pins O H s->t O H Q-> wpAny (model X.prog X.w) X.A (eval a X.env) (λv s₁=>wpAny (model X.prog X.w) X.A (eval b X.env) (λu s₂=>wpAny (model X.prog X.w) X.A (compareOp op v u) (EP X pins O Q) X.xe s₂) X.xe s₁) X.xe s
def tB(t:TE):TT:=λO H Q=>t O H λx H1=>∃c,x=.bl c/\Q c H1
theorem zlo{op:CmpOp}{t:TE}(h:PC X op a b t)(h1:behindInMarks op b=false:=by first | exact nobehind _ (by decide) (by decide) | rfl):PT X (.Compare a [op] [b] pos) (tB t):=by
 intro pins s O H Q I hw;refine wpAny_isTrue_Compare1 (thn (h pins s O H _ I hw) λv s1 h1=>thn h1 λu s2 h2=>thn h2 λc s3 ⟨x,H1,I1,r1,q1⟩=>?_) h1;obtain⟨d,rfl,q⟩:=q1;cases r1;exact _ae ⟨H1,I1,q⟩
theorem ziJ{e:Expr}{t:TE}(h:PE X e t)(he:∀whole,isTrue e X.env whole=(do let v <- whole;standAt e.pos;holding [v] (truthy v)):=by intro _;rfl):PT X e (tB t):=by
 intro pins s O H Q I hw;refine isTrue_plain (thn (h pins s O H _ I hw) λv s1 ⟨x,H1,I1,r1,q1⟩=>?_) (he _);obtain⟨d,rfl,q⟩:=q1;cases r1;exact _ae ⟨H1,I1,q⟩
variable {tA tB':TT}{ke:List Expr}
def zls(t u:TT):TT:=λO H Q=>t O H λc H1=>if c=true then u O H1 Q else Q false H1
def tOr(t u:TT):TT:=λO H Q=>t O H λc H1=>if c=true then Q true H1 else u O H1 Q
def zm0(t:TT):TT:=λO H Q=>t O H λc H1=>Q (!c) H1
theorem zg1(ha:PT X a tA):PW X (.BoolOp .And [a] pos) tA:=by
 intro wh pins s O H Q I h;refine isTrue_and (thn (ha pins s O H Q I h) λc s1 e=>?_);cases c with
 | true=>exact isTrue_and_nil e | false=>exact e
theorem zi6(ha:PT X a tA):PW X (.BoolOp .Or [a] pos) tA:=by
 intro wh pins s O H Q I h;refine isTrue_or (thn (ha pins s O H Q I h) λc s1 e=>?_);cases c with
 | false=>exact isTrue_or_nil e | true=>exact e
theorem zi5(ha:PT X a tA)(hb:PW X (.BoolOp .And (b::ke) pos) tB'):PW X (.BoolOp .And (a::b::ke) pos) (zls tA tB'):=by
 intro wh pins s O H Q I h;refine isTrue_and (thn (ha pins s O H _ I h) λc s1 ⟨H1,I1,q1⟩=>?_);cases c with
 | true=>exact hb wh pins s1 O H1 Q I1 q1 | false=>exact⟨H1,I1,q1⟩
theorem zkB(ha:PT X a tA)(hb:PW X (.BoolOp .Or (b::ke) pos) tB'):PW X (.BoolOp .Or (a::b::ke) pos) (tOr tA tB'):=by
 intro wh pins s O H Q I h;refine isTrue_or (thn (ha pins s O H _ I h) λc s1 ⟨H1,I1,q1⟩=>?_);cases c with
 | true=>exact⟨H1,I1,q1⟩ | false=>exact hb wh pins s1 O H1 Q I1 q1
theorem zhu(ha:PT X a tA):PT X (.UnaryOp .Not a pos) (zm0 tA):=by
 intro pins s O H Q I h;exact isTrue_not (ha pins s O H (λc H1=>Q (!c) H1) I h)
def zjY(ta tb:TE):TE:=λO H Q=>ta O H λx H1=>∃c,x=.bl c/\if c=true then tb O H1 Q else Q (.bl false) H1
def zkq(ta:TE):TE:=λO H Q=>ta O H λx H1=>∃c,x=.bl c/\Q (.bl (!c)) H1
theorem zhQ{op}{t:TE}(h:PE X a t):PE X (.BoolOp op [a] pos) t:=λpins s O H Q I hw=>BoolOp_one (h pins s O H Q I hw)
theorem zh0(ha:PE X a ta)(hb:PE X (.BoolOp .And (b::ke) pos) tb):PE X (.BoolOp .And (a::b::ke) pos) (zjY ta tb):=by
 intro pins s O H Q I h;refine BoolOp_and (thn (ha pins s O H _ I h) λv s1 ⟨x,H1,I1,r1,q1⟩=>?_);obtain⟨c,rfl,q1⟩:=q1;cases r1;refine _ae ?_;cases c with
 | true=>exact hb pins s1 O H1 Q I1 q1 | false=>exact⟨.bl false,H1,I1,rfl,q1⟩
theorem ziQ(ha:PE X a ta):PE X (.UnaryOp .Not a pos) (zkq ta):=by
 intro pins s O H Q I h;refine UnaryOp_ (thn (ha pins s O H _ I h) λv s1 ⟨x,H1,I1,r1,q1⟩=>?_);obtain⟨c,rfl,q1⟩:=q1;cases r1;exact not_of (_ae ⟨.bl (!c),H1,I1,rfl,q1⟩)
def tIf(t:TT)(ta tb:TE):TE:=λO H Q=>t O H λc H1=>if c=true then ta O H1 Q else tb O H1 Q
theorem zcR{c:Expr}(hc:PT X c tA)(ha:PE X a ta)(hb:PE X b tb):PE X (.IfExp c a b pos) (tIf tA ta tb):=by
 intro pins s O H Q I h;refine wpAny_IfExp (thn (hc pins s O H _ I h) λd s1 ⟨H1,I1,q1⟩=>?_);cases d with
 | true=>exact ha pins s1 O H1 Q I1 q1 | false=>exact hb pins s1 O H1 Q I1 q1
end
def SqL(K:W.Frag)(H:Hp)(a:Addr)(xs:List V):Prop:= Rd H a (.lst xs)\/ ∃(o:Obj)(its:Array Value)(n:Nat),K.lookup a=some o/\o.cls=.type "list"/\o.dict=none/\o.data=.seq its n/\its.size<=sizeLine/\yw xs its.toList
def SqT(K:W.Frag)(H:Hp)(a:Addr)(xs:List V):Prop:= Rd H a (.tup xs)\/ ∃(o:Obj)(its:Array Value)(n:Nat),K.lookup a=some o/\o.cls=.type "tuple"/\o.data=.seq its n/\its.size<=sizeLine/\yw xs its.toList
noncomputable def zm9:Value->Option V
 | .none=>some .non | .bool b=>some (.bl b) | .int i _=>some (.int i) | .str x _=>some (.str x) | .bytes b _=>some (.byt b) | .float b _=>some (.flt b) | .ref a=>some (.ref a) | .type n=>some (.ty n) | _=>none
theorem yr.abs{x:V}{u:Value}(r:yr x u):zm9 u=some x:=by cases x with
 | non=>cases r;rfl | bl _=>cases r;rfl | int _=>obtain⟨t,rfl⟩:=r;rfl | str _=>obtain⟨t,rfl⟩:=r;rfl | byt _=>obtain⟨t,rfl⟩:=r;rfl | flt _=>obtain⟨t,rfl⟩:=r;rfl | ref _=>cases r;rfl | ty _=>cases r;rfl
theorem yr.inj{x y:V}{u:Value}(r:yr x u)(q:yr y u):x=y:=_K (r.abs.symm.trans q.abs)
theorem yw.inj:∀{xs ys:List V}{us:List Value},yw xs us->yw ys us->xs=ys
 | _,_,_,.nil,.nil=>rfl | _,_,_,.cons r t,.cons r' t'=>by rw[r.inj r',yw.inj t t']
section
variable {X:Cx}{pins:List (Addr×Obj)}{O:St}{H:Hp}{s:Shared}{a:Addr}{xs ys:List V}
theorem SqL.of{K:W.Frag}(h:H a=some (.lst xs)):SqL K H a xs:=.inl (.inl h)
theorem Inv.list(I:Inv X pins O H s)(h:SqL X.K H a xs):∃its:List Value,yw xs its/\PlainL s.heap a its.toArray/\xs.length<=sizeLine:=by
 rcases h with h | ⟨o,its,n,hk,hc,hd,hs,hz,r⟩
 ·obtain⟨z,its,n,r,e⟩:=h.ok I.hok;exact⟨its,r,⟨_,n,e,rfl,rfl,rfl⟩,z⟩
 ·refine⟨its.toList,r,⟨o,n,I.kIn a o hk,hc,hd,by simpa using hs⟩,?_⟩;have e:=r.length;simp only[_a5]at e;omega
theorem Inv.tuple(I:Inv X pins O H s)(h:SqT X.K H a xs):∃its:List Value,yw xs its/\IsTup s.heap a its.toArray/\xs.length<=sizeLine:=by
 rcases h with h | ⟨o,its,n,hk,hc,hs,hz,r⟩
 ·obtain⟨z,its,r,p⟩:=h.ok I.hok;exact⟨its,r,p.tup,z⟩
 ·refine⟨its.toList,r,⟨o,I.kIn a o hk,hc,n,by simpa using hs⟩,?_⟩;have e:=r.length;simp only[_a5]at e;omega
theorem Inv.list_inj(I:Inv X pins O H s)(h:SqL X.K H a xs)(h':SqL X.K H a ys):xs=ys:=by
 obtain⟨its,r,⟨o,n,e,_,_,d⟩,_⟩:=I.list h;obtain⟨its',r',⟨o',n',e',_,_,d'⟩,_⟩:=I.list h';rw[e]at e';cases e';rw[d]at d';injection d' with d1 _;have:its=its':=by simpa using _a0 Array.toList d1
 subst this;exact r.inj r'
theorem Inv.tuple_inj(I:Inv X pins O H s)(h:SqT X.K H a xs)(h':SqT X.K H a ys):xs=ys:=by
 obtain⟨its,r,⟨o,e,_,n,d⟩,_⟩:=I.tuple h;obtain⟨its',r',⟨o',e',_,n',d'⟩,_⟩:=I.tuple h';rw[e]at e';cases e';rw[d]at d';injection d' with d1 _;have:its=its':=by simpa using _a0 Array.toList d1
 subst this;exact r.inj r'
end
noncomputable abbrev Cx.wish(X:Cx)(E:Value->Shared->Prop):Cx:={X with xe:=E}
noncomputable abbrev Cx.nox(X:Cx):Cx:=X.wish λ_ _=>False
theorem Cx.Ok.wish{X:Cx}(ok:X.Ok)(E:Value->Shared->Prop):(X.wish E).Ok:= ⟨ok.mod,ok.kind,ok.glob,ok.blt,ok.above,ok.inj,ok.has,ok.cab,ok.hd,ok.frames,ok.stk,ok.exf,ok.bs,ok.bsz,ok.noex,ok.exfs,ok.funs,ok.frf⟩
theorem Cx.Ok.unwish{X:Cx}{E:Value->Shared->Prop}(ok:(X.wish E).Ok):X.Ok:= ⟨ok.mod,ok.kind,ok.glob,ok.blt,ok.above,ok.inj,ok.has,ok.cab,ok.hd,ok.frames,ok.stk,ok.exf,ok.bs,ok.bsz,ok.noex,ok.exfs,ok.funs,ok.frf⟩
section
variable {X:Cx}{pins:List (Addr×Obj)}{O:St}{H:Hp}{s:Shared}{E:Value->Shared->Prop}
theorem Inv.wish(I:Inv X pins O H s)(E:Value->Shared->Prop):Inv (X.wish E) pins O H s:=⟨I.ok.wish E,I.os,I.bare,I.base,I.loc,I.cell,I.free,I.freeC,I.pin,I.hok,I.len⟩
theorem Inv.unwish(I:Inv (X.wish E) pins O H s):Inv X pins O H s:=⟨I.ok.unwish,I.os,I.bare,I.base,I.loc,I.cell,I.free,I.freeC,I.pin,I.hok,I.len⟩
theorem SP.unwish{D:zfP}{f:Flow}{s':Shared}(h:SP (X.wish E) pins D f s'):SP X pins D f s':=by cases f with
 | next=>obtain⟨O',H',I,q⟩:=h;exact⟨O',H',I.unwish,q⟩ | brk=>obtain⟨O',H',I,q⟩:=h;exact⟨O',H',I.unwish,q⟩ | cont=>obtain⟨O',H',I,q⟩:=h;exact⟨O',H',I.unwish,q⟩ | ret u=>obtain⟨v,O',H',I,r,q⟩:=h;exact⟨v,O',H',I.unwish,r,q⟩
theorem PSs.nox{st:List Stmt}{t:TS}(h:PSs X.nox st t):PSs X st t:=λpins s O H D I hw=> _r (h pins s O H D (I.wish _) hw) (λ_ _ q=>q.unwish) λ_ _ z=>False.elim z
end
section
variable {X:Cx}{st:Stmt}{ke:List Stmt}{t u:TS}{e:Expr}{te:TE}{pos:Pos}
def zkc:TS:=λD O H=>D.nx O H
def zl5(t u:TS):TS:=λD O H=>t {D with nx:=u D} O H
theorem zf0:PSs X [] zkc:=λ_ _ O H _ I h=>_cj ⟨O,H,I,h⟩
theorem zcd(h1:PS X st t)(h2:PSs X ke u):PSs X (st::ke) (zl5 t u):=by
 intro pins s O H D I h;refine wpAny_execs_cons (thn (h1 pins s O H {D with nx:=u D} I h) λf s1 q=>?_);cases f with
 | next=>
  obtain⟨O',H',I',q⟩:=q;exact h2 pins s1 O' H' D I' q | ret v=>exact q | brk=>exact q | cont=>exact q
theorem zeY(h1:PS X st t):PSs X [st] t:=by
 intro pins s O H D I h;refine wpAny_execs_cons (thn (h1 pins s O H D I h) λf s1 q=>?_);cases f with
 | next=>exact _cj q | ret v=>exact q | brk=>exact q | cont=>exact q
theorem Inv.quiet{pins:List (Addr×Obj)}{O:St}{H:Hp}{s:Shared}(I:Inv X pins O H s):interactive X.env=false:=by simp[interactive,I.ok.kind]
def zkx(te:TE):TS:=λD O H=>te O H λ_ H1=>D.nx O H1
theorem zfX(he:PE X e te)(hs:swapsWith e none pos.line X.env=pure false:=by rfl):PS X (.Expr e pos) (zkx te):=by
 intro pins s O H D I h;exact wpAny_Expr_any (thn (he pins s O H _ I h) λv s1 ⟨x,H1,I1,r1,q1⟩=>⟨O,H1,I1,q1⟩) I.quiet hs
def zlK(te:TE):TS:=λD O H=>te O H D.rt
theorem zhy(he:PE X e te):PS X (.Return (some e) pos) (zlK te):=by
 intro pins s O H D I h;exact wpAny_Return_some (thn (he pins s O H _ I h) λv s1 ⟨x,H1,I1,r1,q1⟩=>⟨x,O,H1,I1,r1,q1⟩)
def zm3(c:TT)(t u:TS):TS:=λD O H=>c O H λb H1=>if b=true then t D O H1 else u D O H1
theorem zkX{c:Expr}{a b:List Stmt}{tc:TT}(hc:PT X c tc)(ha:PSs X a t)(hb:PSs X b u):PS X (.If c a b pos) (zm3 tc t u):=by
 intro pins s O H D I h;refine wpAny_If (thn (hc pins s O H _ I h) λd s1 ⟨H1,I1,q1⟩=>?_);cases d with
 | true=>exact ha pins s1 O H1 D I1 q1 | false=>exact hb pins s1 O H1 D I1 q1
def zhi:TS:=λ_ _ _=>False
theorem zcn:PS X st zhi:=λ_ _ _ _ _ _ h=>h.elim
end
abbrev TG:=V->St->Hp->(St->Hp->Prop)->Prop
abbrev TGs:=List V->St->Hp->(St->Hp->Prop)->Prop
def PG(X:Cx)(target:Expr)(t:TG):Prop:= ∀(pins:List (Addr×Obj))(s:Shared)(O:St)(H:Hp)(v:V)(u:Value)(Q:St->Hp->Prop),Inv X pins O H s->yr v u->t v O H Q-> wpAny (model X.prog X.w) X.A (assign target X.env u) (λ_ s'=>∃O' H',Inv X pins O' H' s'/\Q O' H') X.xe s
def PGs(X:Cx)(ts:List Expr)(t:TGs):Prop:= ∀(pins:List (Addr×Obj))(s:Shared)(O:St)(H:Hp)(vs:List V)(us:List Value)(Q:St->Hp->Prop),Inv X pins O H s->yw vs us->t vs O H Q-> wpAny (model X.prog X.w) X.A (assignInOrder ((assignEach ts X.env).map (·.2)) us) (λ_ s'=>∃O' H',Inv X pins O' H' s'/\Q O' H') X.xe s
abbrev zkF:=V->V->V->Hp->(Hp->Prop)->Prop
def zlk(X:Cx)(t:zkF):Prop:= ∀(pins:List (Addr×Obj))(s:Shared)(O:St)(H:Hp)(o i v:V)(ov iv u:Value)(Q:Hp->Prop),Inv X pins O H s->yr o ov->yr i iv->yr v u->t o i v H Q-> wpAny (model X.prog X.w) X.A (setItem ov iv u) (λ_ s'=>∃H',Inv X pins O H' s'/\Q H') X.xe s
abbrev TIp:=V->V->Hp->VK->Prop
def PIp(X:Cx)(op:Operator)(t:TIp):Prop:= ∀(pins:List (Addr×Obj))(s:Shared)(O:St)(H:Hp)(x y:V)(v u:Value)(Q:VK),Inv X pins O H s->yr x v->yr y u->t x y H Q-> wpAny (model X.prog X.w) X.A (inplaceOp op v u) (EP X pins O Q) X.xe s
section
variable {X:Cx}{pos:Pos}
def jH(i:Nat):TG:=λv O H Q=>Q (O.set i (some v)) H
theorem yJ{i:Nat}{x:Str}(hN:X.N.Nodup)(hi:X.N[i]? = some x)(hx:Loc X.env.scope x)(hf:X.fn x=true\/X.env.scope.names.lookup x=some .local:=by first | exact .inl rfl | exact .inr rfl | assumption):PG X (.Name x pos) (jH i):=by
 intro pins s O H v u Q I r h;exact _bU (jx I hN hi hx r (λs' I'=>⟨_,H,I',h⟩) hf)
def zl8:TGs:=λvs O H Q=>vs=[]/\Q O H
def zfM(t:TG)(u:TGs):TGs:=λvs O H Q=>∃v r,vs=v::r/\t v O H λO' H'=>u r O' H' Q
theorem zbr:PGs X [] zl8:=by
 intro pins s O H vs us Q I r h;obtain⟨e,h⟩:=h;subst e;cases r;exact assignInOrder_nil ⟨O,H,I,h⟩
theorem z1C{e:Expr}{es:List Expr}{t:TG}{u:TGs}(h1:PG X e t)(h2:PGs X es u) (hs:(assignEach (e::es) X.env).map (·.2)=assign e X.env::(assignEach es X.env).map (·.2):=by rfl):PGs X (e::es) (zfM t u):=by
 intro pins s O H vs us Q I r h;obtain⟨v,vr,e1,h⟩:=h;subst e1;cases r with | cons r rr=>
  rw[hs];refine _cy (thn (h1 pins s O H _ _ _ I r h) λ_ s1 ⟨O1,H1,I1,q1⟩=>?_);exact h2 pins s1 O1 H1 _ _ Q I1 rr q1
def zll(K:W.Frag)(n:Nat)(t:TGs):TG:=λv O H Q=>∃a xs,v=.ref a/\SqT K H a xs/\xs.length=n/\t xs O H Q
theorem zev{es:List Expr}{k:Nat}{t:TGs}{n:Nat}(hc:X.calm=true)(h:PGs X es t) (hn:(assignEach es X.env).length=n:=by rfl)(hst:(assignEach es X.env).findIdx? (·.1)=none:=by rfl):PG X (.Tuple es k pos) (zll X.K n t):=by
 intro pins s O H v u Q I r hw;obtain⟨a,xs,e1,hq,hl,hw⟩:=hw;subst e1;cases r;obtain⟨its,rv,ht,hz⟩:=I.tuple hq;refine assign_Tuple_tuple (I.ok.hd hc) ht (by simp[hn,<- hl,rv.length]) hst λh' hx=>?_;have I1:Inv X pins O H {s with heap:=h'}:=I.kept (t':=s.toks) λb o e=>hx b o (_y (_m e)) e;exact h pins _ O H xs _ Q I1 (by simpa using rv) hw
def zlX(to ti:TE)(t:zkF):TG:=λv O H Q=>to O H λo H1=>ti O H1 λi H2=>t o i v H2 λH3=>Q O H3
theorem zgU{o i:Expr}{to ti:TE}{t:zkF}(ho:PE X o to)(hi:PE X i ti)(hs:zlk X t) (ha:∀v,assign (.Subscript o i pos) X.env v=(do
   let ov <- holding [v] (eval o X.env) let iv <- holding [v,ov] (eval i X.env)
   standAt pos
   holding [v,ov,iv] (setItem ov iv v)
   release [v,ov,iv] []):=by intro _;rfl):PG X (.Subscript o i pos) (zlX to ti t):=by
 intro pins s O H v u Q I r h;rw[ha];refine _a (_aG (thn (ho pins s O H _ I h) λov s1 ⟨x,H1,I1,r1,q1⟩=>?_));refine _a (_aG (thn (hi pins s1 O H1 _ I1 q1) λiv s2 ⟨y,H2,I2,r2,q2⟩=>?_));refine _a (_aH (_a (_aG (thn (hs pins s2 O H2 x y v ov iv u _ I2 r1 r2 r q2) λ_ s3 ⟨H3,I3,q3⟩=>?_))));exact wpAny_release ⟨O,H3,I3,q3⟩
def zjX(te:TE)(g:TG):TS:=λD O H=>te O H λx H1=>g x O H1 D.nx
theorem zeg{tg e:Expr}{te:TE}{g:TG}(he:PE X e te)(hg:PG X tg g)(hs:swapsWithSole [tg] e pos.line X.env=pure false:=by rfl)(hw:swappedStores [tg] e X.env=pure none:=by rfl) (h1:(assignEach [tg] X.env).map (·.2)=[assign tg X.env]:=by rfl):PS X (.Assign [tg] e pos) (zjX te g):=by
 intro pins s O H D I h;refine wpAny_Assign_stores (thn (he pins s O H _ I h) λv s1 ⟨x,H1,I1,r1,q1⟩=>?_) hs hw;rw[h1];exact thn (hg pins s1 O H1 x v _ I1 r1 q1) λ_ s2 q=>q
theorem zj5{i:Nat}{x:Str}{e:Expr}{te:TE}{pos':Pos}(hN:X.N.Nodup)(hi:X.N[i]? = some x)(hx:Loc X.env.scope x)(he:PE X e te)(hs:swapsWith e (some (.Name x pos')) pos.line X.env=pure false:=by rfl)(hf:X.fn x=true\/X.env.scope.names.lookup x=some .local:=by first | exact .inl rfl | exact .inr rfl | assumption): PS X (.Assign [.Name x pos'] e pos) (zjX te (jH i)):=by
 intro pins s O H D I h;refine wpAny_Assign_Name (thn (he pins s O H _ I h) λv s1 ⟨y,H1,I1,r1,q1⟩=>?_) hs;exact jx I1 hN hi hx r1 (λs2 I2=>⟨_,H1,I2,q1⟩) hf
def zlw(i j:Nat)(ta:TA):TS:=λD O H=>ta O H λvs H1=>∃v w,vs=[v,w]/\D.nx ((O.set i (some v)).set j (some w)) H1
theorem zi9 {i j:Nat} {x y:Str} {a b:Expr} {ta:TA} {px py pt:Pos} {kt k2 pt2} (hc:X.calm=true) (hN:X.N.Nodup) (hi:X.N[i]? = some x) (hj:X.N[j]? = some y) (hij:i≠j) (hx:X.env.scope.names.lookup x=some .local) (hy:X.env.scope.names.lookup y=some .local) (ha:PA X [a,b] ta) (hw:swappedStores [.Tuple [.Name x px,.Name y py] kt pt] (.Tuple [a,b] k2 pt2) X.env=pure (some [x,y])) (hs:swapsWithSole [.Tuple [.Name x px,.Name y py] kt pt] (.Tuple [a,b] k2 pt2) pos.line X.env=pure false:=by rfl): PS X (.Assign [.Tuple [.Name x px,.Name y py] kt pt] (.Tuple [a,b] k2 pt2) pos) (zlw i j ta):=by
 intro pins s O H D I h;rw[exec_Assign_arm];refine _a (_aH ?_);rw[hs];refine _a (_b ?_);rw[_j (by decide)];refine _a (Tuple_ (thn (ha _ pins s O H _ I h) λus s1 ⟨vs,H1,I1,r1,q1⟩=>?_));obtain⟨v,w,e1,q1⟩:=q1;subst e1;obtain⟨u1,u2,rfl,rv,rw'⟩:∃u1 u2,us=[u1,u2]/\yr v u1/\yr w u2:=by cases r1 with | cons p q=> cases q with | cons p' q'=>
    cases q';exact⟨_,_,rfl,p,p'⟩
 refine _U ?_ (by show 2<=sizeLine;decide);have I2:Inv X pins O H1 {s1 with heap:=s1.heap.push {cls:=.type "tuple",data:=.seq [u1,u2].toArray}}:=I1.kept (t':=s1.toks) λb o e=>_d _ e;rw[hw];refine _a (_b ?_);show wpAny (model X.prog X.w) X.A (do rule "assign.swapped-stores";let items <- unpackItems (.ref s1.heap.objs.size) 2 none;assignInOrder [λv=>bindName X.env y v,λv=>bindName X.env x v] items.reverse;pure Flow.next) _ _ _;refine _a (_a2 (_a (unpackItems_tuple (items:=#[u1,u2]) (I.ok.hd hc) (IsTup.new s1.heap _) λh' hx'=>?_)));have I3:=I2.kept (h':=h') (t':=s1.toks) λb o e=>hx' b o (_y (_m e)) e;show wpAny _ _ (assignInOrder [λv=>bindName X.env y v,λv=>bindName X.env x v] [u2,u1] >>= λ_=>pure Flow.next) _ _ _;refine _a (_cy (wpAny_bindName (jx I3 hN hj (.inl hy) rw' (λs2 I4=>?_) (.inr hy))));refine _cy (wpAny_bindName (jx I4 hN hi (.inl hx) rv (λs3 I5=>assignInOrder_nil (_b ?_)) (.inr hx)));rw[List.set_comm _ _ (_aM hij)]at I5;exact⟨_,H1,I5,q1⟩
def zm8(i:Nat)(te:TE)(ti:TIp):TS:=λD O H=>∃x,O[i]? = some (some x)/\te O H λy H1=>ti x y H1 λz H2=>D.nx (O.set i (some z)) H2
theorem zjk{i:Nat}{x:Str}{e:Expr}{te:TE}{op:Operator}{ti:TIp}{pos':Pos}(hN:X.N.Nodup)(hi:X.N[i]? = some x)(hx:Loc X.env.scope x)(he:PE X e te)(ho:PIp X op ti)(hf:X.fn x=true\/X.env.scope.names.lookup x=some .local:=by first | exact .inl rfl | exact .inr rfl | assumption): PS X (.AugAssign (.Name x pos') op e pos) (zm8 i te ti):=by
 intro pins s O H D I h;obtain⟨v,e1,h⟩:=h;obtain⟨m,hn,hl⟩:=I.loc;have vis:Vis X.env.scope x:=by rcases hx with k | k;exact .inl k;exact .inr (.inl k)
 obtain⟨u,r,l⟩:=hl i x v hi e1 vis;refine wpAny_AugAssign_Name ?_;have go:wpAny (model X.prog X.w) X.A (eval e X.env) (λw s₂=>wpAny (model X.prog X.w) X.A (inplaceOp op u w) (λr s₃=>wpAny (model X.prog X.w) X.A (storeName X.env x r) (λ_=>SP X pins D .next) X.xe s₃) X.xe s₂) X.xe s:=by
  refine thn (he pins s O H _ I h) λw s1 ⟨y,H1,I1,r1,q1⟩=>?_;refine thn (ho pins s1 O H1 v y u w _ I1 r r1 q1) λz s2 ⟨zv,H2,I2,r2,q2⟩=>?_;exact jx I2 hN hi hx r2 (λs3 I3=>⟨_,H2,I3,q2⟩) hf
 rcases l with⟨hk,hm⟩ | ⟨hk,c,hc,hcell⟩;·exact wpAny_loadName_local I.ok.kind hk hn hm go
 ·rcases hk with hk | hk;·exact wpAny_loadName_cell I.ok.kind hk hc hcell go
  ·rcases hx with k | k
   ·have:X.env.scope.names.lookup x=some .free:=hk;rw[k]at this;cases this
   ·have:X.env.scope.names.lookup x=some .free:=hk;rw[k]at this;cases this
def ipI(f:Int->Int->Int):TIp:=λx y H Q=>∃i j,x=.int i/\y=.int j/\Q (.int (f i j)) H
theorem zj2:PIp X .Add (ipI λi j=>i+j):=by
 intro pins s O H x y v u Q I r1 r2 h;obtain⟨i,j,e1,e2,q⟩:=h;subst e1;subst e2;obtain⟨t,rfl⟩:=r1;obtain⟨t',rfl⟩:=r2;exact iadd_int ⟨.int _,H,I.tok _,⟨_,rfl⟩,q⟩
end
section
variable {X:Cx}{pos:Pos}
def zhE(c:TT)(tb:TS):TS:=λD O H=>∃W:Nat->St->Hp->Prop,(∃m,W m O H)/\∀m O H,W m O H-> c O H λb H1=>if b=true then ∃N:St->Hp->Prop,(∀O' H',N O' H'->∃m',m'<m/\W m' O' H')/\tb {D with nx:=N,ct:=N,bk:=D.nx} O H1 else D.nx O H1
theorem zdD{c:Expr}{body:List Stmt}{tc:TT}{tb:TS}(hp:PassesOwn (model X.prog X.w) X.A X.env X.xe)(hc:PT X c tc)(hb:PSs X body tb):PS X (.While c body [] pos) (zhE tc tb):=by
 intro pins s O H D I h;obtain⟨W,⟨m0,w0⟩,turn⟩:=h;refine wpAny_While (codeAny_whileLoop (λn s'=>∃O' H',Inv X pins O' H' s'/\W n O' H') ?_ m0 ⟨O,H,I,w0⟩);rintro n s1 ⟨O1,H1,I1,w1⟩;refine _aW hp (thn (hc pins s1 O1 H1 _ I1 (turn n O1 H1 w1)) λb s2 ⟨H2,I2,q2⟩=>?_);cases b with
 | true=>
  obtain⟨N,hN,q2⟩:=q2;rw[_e rfl];refine _aW hp (thn (hb pins s2 O1 H2 _ I2 q2) λf s3 q3=>?_);cases f with
  | next=>
   obtain⟨O3,H3,I3,n3⟩:=q3;obtain⟨m',hm,w3⟩:=hN O3 H3 n3;exact⟨m',hm,O3,H3,I3,w3⟩ | cont=>
   obtain⟨O3,H3,I3,n3⟩:=q3;obtain⟨m',hm,w3⟩:=hN O3 H3 n3;exact⟨m',hm,O3,H3,I3,w3⟩ | brk=>exact q3 | ret v=>exact q3
 | false=>
  rw[_j _R];exact _cj ⟨O1,H2,I2,q2⟩
end
structure It where
 go:Nat->Hp->Prop
 yld:Nat->Hp->V->Hp->Prop
 stop:Nat->Hp->Prop
def z3v(X:Cx)(pins:List (Addr×Obj))(H:Hp)(b:Addr):Prop:= H b=none/\b≠X.env.locals/\b∉X.fs/\(b∈X.ex\/X.s₀.heap.objs.size<=b)/\(∀x c,X.env.cells.lookup x=some c->c≠b)/\∀p∈X.pn++pins,p.1≠b
theorem Inv.fpOk{X:Cx}{pins:List (Addr×Obj)}{O:St}{H H':Hp}{s:Shared}{b:Addr}(I:Inv X pins O H s)(hb:s.heap.objs.size<=b)(hn:H' b=none):z3v X pins H' b:=by
 refine⟨hn,_cs (_p I.lt hb),I.nofs hb,.inr (_S I.sz hb),λx c e z=>?_,λp hp z=>?_⟩
 ·obtain⟨v,q⟩:=I.cell x c e;exact absurd (_p q.lt (by rw[z];exact hb)) (_al _)
 ·exact absurd (_p (_m (I.pin p hp).1) (by rw[z];exact hb)) (_al _)
structure zcK(P:Program)(w:World)(K:W.Frag)(tg:Expr)(J:It)(fp:List Addr)(it:Addr)(tn:Nat->Heap->Prop):Prop where
 mem:it∈fp
 obj:∀i h,tn i h->∀b∈fp,∃o,h.get? b=some o/\∀v,o.data≠.cell v
 keep:∀i h h',tn i h->(∀b∈fp,∀o,h.get? b=some o->h'.get? b=some o)->tn i h'
 item:∀(X:Cx),X.prog=P->X.w=w->X.K=K->X.calm=true->∀(i:Nat)(pins:List (Addr×Obj))(s:Shared)(O:St)(H:Hp)(E:Value->Shared->Prop),Inv X pins O H s->(∀b∈fp,z3v X pins H b)->tn i s.heap->J.go i H-> wpAny (model P w) X.A (pyNext (.ref it)) (λr s1=>∃u,r=some u/\ wpAny (model P w) X.A (letOwnedTupleGo tg (.ref it) u) (λ_ s2=>∃x H',Inv X pins O H' s2/\yr x u/\J.yld i H x H'/\tn (i+1) s2.heap/\∀b∈fp,H' b=none) E s1) E s
 done:∀(X:Cx),X.prog=P->X.w=w->X.K=K->X.calm=true->∀(i:Nat)(pins:List (Addr×Obj))(s:Shared)(O:St)(H:Hp)(E:Value->Shared->Prop),Inv X pins O H s->(∀b∈fp,z3v X pins H b)->tn i s.heap->J.stop i H-> wpAny (model P w) X.A (pyNext (.ref it)) (λr s1=>r=none/\Inv X pins O H s1) E s
 self:∀(A:Around)(i:Nat)(s:Shared)(Q:Value->Shared->Prop)(E:Value->Shared->Prop),tn i s.heap->Q (.ref it) s->wpAny (model P w) A (pyIter (.ref it)) Q E s
abbrev TI:=St->Hp->(It->Hp->Prop)->Prop
def PIE(X:Cx)(pins:List (Addr×Obj))(O:St)(tg:Expr)(R:It->Hp->Prop)(itv:Value)(s2:Shared):Prop:= ∃(it:Addr)(fp:List Addr)(tn:Nat->Heap->Prop)(J:It)(H':Hp),itv=.ref it/\Inv X pins O H' s2/\zcK X.prog X.w X.K tg J fp it tn/\tn 0 s2.heap/\(∀b∈fp,z3v X pins H' b)/\R J H'
def PI(X:Cx)(tg iter:Expr)(wi:TI):Prop:= ∀(pins:List (Addr×Obj))(s:Shared)(O:St)(H:Hp)(R:It->Hp->Prop),Inv X pins O H s->wi O H R-> wpAny (model X.prog X.w) X.A (eval iter X.env) (λv s1=>wpAny (model X.prog X.w) X.A (pyIter v) (PIE X pins O tg R) X.xe s1) X.xe s
theorem zcm{M:Model}{A:Around}{E:Value->Shared->Prop}{s:Shared}{tg:Expr}{it:Addr}{u:Value}{o:Obj}{n:String}{vs:Array Value}{Q:Unit->Shared->Prop}(ho:s.heap.get? it=some o)(hc:o.cls=.type n)(hd:o.data=.fields vs) (hn:["enumerate","zip","dict_itemiterator","dict_reverseitemiterator","odict_iterator","itertools.zip_longest","itertools.pairwise"].contains n=false)(hQ:Q () s):wpAny M A (letOwnedTupleGo tg (.ref it) u) Q E s:=by
  unfold letOwnedTupleGo;cases tg<;>first
    | exact _b hQ | (cases u<;>first
        | exact _b hQ
        | (refine _a (wpAny_load ho ?_);rw[hc,hd];show wpAny M A (if (["enumerate","zip","dict_itemiterator","dict_reverseitemiterator","odict_iterator","itertools.zip_longest","itertools.pairwise"].contains n&&vs[0]? == some (rawInt _))=true then _ else _) Q E s;rw[_j (by intro h;rw[hn,Bool.false_and]at h;cases h)];exact _b hQ))
def Itl(K:W.Frag)(a:Addr):It:= ⟨λi H=>∃xs x,SqL K H a xs/\xs[i]? = some x,λi H x H'=>H'=H/\∀xs,SqL K H a xs->xs[i]? = some x,λi H=>∃xs,SqL K H a xs/\xs.length<=i⟩
def Itt(K:W.Frag)(a:Addr):It:= ⟨λi H=>∃xs x,SqT K H a xs/\xs[i]? = some x,λi H x H'=>H'=H/\∀xs,SqT K H a xs->xs[i]? = some x,λi H=>∃xs,SqT K H a xs/\xs.length<=i⟩
def Itr(lo:Int)(n:Nat):It:=⟨λi _=>i<n,λi H x H'=>H'=H/\x=.int (lo+i),λi _=>n<=i⟩
theorem zb3{P:Program}{w:World}{K:W.Frag}{tg:Expr}(a it:Addr):zcK P w K tg (Itl K a) [it] it (λi h=>h.IsListIter it a i) where
 mem:=by simp
 obj:=λi h st b hb=>by
  have e:b=it:=by simpa using hb
  subst e;obtain⟨o,e,c,d⟩:=st;exact⟨o,e,λv z=>by rw[d]at z;cases z⟩
 keep:=λi h h' st k=>st.at λo e=>k it (by simp) o e;item:=by
  intro X hP hw hK hc i pins s O H E I hf st hg;subst hP hw hK;obtain⟨xs,x,hq,hx⟩:=hg;obtain⟨its,rv,p,hz⟩:=I.list hq;obtain⟨u,hu,ru⟩:=rv.get hx;obtain⟨f0,f1,f2,f3,f4,f5⟩:=hf it (by simp);refine wpAny_pyNext_list_item st p.isList (x:=u) (by simpa using hu) λh' st' sb=>?_;have I1:Inv X pins O H {s with heap:=h'}:=I.turned (t':=s.toks) (λb o hb e=>(sb.2 b hb).trans e) f0 f1 f3 f4 f5;obtain⟨o,e,c,d⟩:=id st';exact⟨u,rfl,zcm (s:={s with heap:=h'}) e c d (by decide) ⟨x,H,I1,ru,⟨rfl,λys hy=>by rw[I.list_inj hy hq];exact hx⟩,st',λb hb=>(hf b hb).1⟩⟩
 done:=by
  intro X hP hw hK hc i pins s O H E I hf st hg;subst hP hw hK;obtain⟨xs,hq,hx⟩:=hg;obtain⟨its,rv,p,hz⟩:=I.list hq;obtain⟨f0,f1,f2,f3,f4,f5⟩:=hf it (by simp);have hl:=rv.length;exact wpAny_pyNext_list_end (I.ok.hd hc) st p.isList (by simp;omega) λh' eb=>⟨rfl,I.turned (t':=s.toks) (λb o hb e=>eb b o hb e) f0 f1 f3 f4 f5⟩
 self:=λ_ _ _ _ _ st h=>wpAny_pyIter_listiter st h
theorem z9z {P:Program} {w:World} {K:W.Frag} {tg:Expr} (a it:Addr):zcK P w K tg (Itt K a) [it] it (λi h=>h.IsTupleIter it a i) where
 mem:=by simp
 obj:=λi h st b hb=>by
  have e:b=it:=by simpa using hb
  subst e;obtain⟨o,e,c,d⟩:=st;exact⟨o,e,λv z=>by rw[d]at z;cases z⟩
 keep:=λi h h' st k=>st.at λo e=>k it (by simp) o e;item:=by
  intro X hP hw hK hc i pins s O H E I hf st hg;subst hP hw hK;obtain⟨xs,x,hq,hx⟩:=hg;obtain⟨its,rv,p,hz⟩:=I.tuple hq;obtain⟨u,hu,ru⟩:=rv.get hx;obtain⟨f0,f1,f2,f3,f4,f5⟩:=hf it (by simp);refine wpAny_pyNext_tuple_item st (show s.heap.IsTuple a its.toArray from p) (x:=u) (by simpa using hu) λh' st' sb=>?_;have I1:Inv X pins O H {s with heap:=h'}:=I.turned (t':=s.toks) (λb o hb e=>(sb.2 b hb).trans e) f0 f1 f3 f4 f5;obtain⟨o,e,c,d⟩:=id st';exact⟨u,rfl,zcm (s:={s with heap:=h'}) e c d (by decide) ⟨x,H,I1,ru,⟨rfl,λys hy=>by rw[I.tuple_inj hy hq];exact hx⟩,st',λb hb=>(hf b hb).1⟩⟩
 done:=by
  intro X hP hw hK hc i pins s O H E I hf st hg;subst hP hw hK;obtain⟨xs,hq,hx⟩:=hg;obtain⟨its,rv,p,hz⟩:=I.tuple hq;obtain⟨f0,f1,f2,f3,f4,f5⟩:=hf it (by simp);have hl:=rv.length;exact wpAny_pyNext_tuple_end (I.ok.hd hc) st (show s.heap.IsTuple a its.toArray from p) (by simp;omega) λh' eb=>⟨rfl,I.turned (t':=s.toks) (λb o hb e=>eb b o hb e) f0 f1 f3 f4 f5⟩
 self:=λ_ _ _ _ _ st h=>wpAny_pyIter_tupleiter st h
theorem z9a {P:Program} {w:World} {K:W.Frag} {tg:Expr} (it:Addr) (lo:Int) (n:Nat):zcK P w K tg (Itr lo n) [it] it (λi h=>IsRangeIter h it (lo+(i:Nat)*1) ((n:Int)-(i:Nat)) 1) where
 mem:=by simp
 obj:=λi h st b hb=>by
  have e:b=it:=by simpa using hb
  subst e;exact⟨_,st,λv z=>by
   have z':Data.fields _=Data.cell v:=z;cases z'⟩
 keep:=λi h h' st k=>k it (by simp) _ st;item:=by
  intro X hP hw hK hc i pins s O H E I hf st hg;subst hP hw hK;obtain⟨f0,f1,f2,f3,f4,f5⟩:=hf it (by simp);have W:=Walks.range (prog:=X.prog) (w:=X.w) (I.ok.hd hc) it lo 1 n;refine W.item i s _ _ hg st λv h' tk hv st' kk=>?_;obtain⟨t,rfl⟩:=hv;have I1:Inv X pins O H {s with heap:=h',toks:=tk}:=I.turned (λb o hb e=>kk b o (by simpa using hb) e) f0 f1 f3 f4 f5;refine⟨_,rfl,zcm (s:={s with heap:=h',toks:=tk}) (n:="range_iterator") st' rfl rfl (by decide) ⟨.int (lo+i),H,I1,⟨t,?_⟩,⟨rfl,rfl⟩,st',λb hb=>(hf b hb).1⟩⟩;rw[Int.mul_one]
 done:=by
  intro X hP hw hK hc i pins s O H E I hf st hg;subst hP hw hK;obtain⟨f0,f1,f2,f3,f4,f5⟩:=hf it (by simp);exact wpAny_pyNext_range_end (I.ok.hd hc) st (by have:n<=i:=hg;omega) λh' eb=>⟨rfl,I.turned (t':=s.toks) (λb o hb e=>eb b o hb e) f0 f1 f3 f4 f5⟩
 self:=λ_ _ _ _ _ st h=>wpAny_pyIter_rangeiter st h
section
variable {X:Cx}{tg:Expr}
theorem z7O{pins:List (Addr×Obj)}{O:St}{H:Hp}{s:Shared}{R:It->Hp->Prop}{E:Value->Shared->Prop}{lo hi:Int}{t u v:Tok}{tk:Nat}(I:Inv X pins O H s)(h1:-(2 ^ 62)<=lo)(h2:lo<2 ^ 62)(h3:-(2 ^ 62)<=hi)(h4:hi<2 ^ 62) (q:R (Itr lo (hi-lo).toNat) H):wpAny (model X.prog X.w) X.A (pyIter (.ref s.heap.objs.size)) (PIE X pins O tg R) E {s with heap:=s.heap.push {cls:=.type "range",data:=.fields #[.int lo t,.int hi u,.int 1 v]},toks:=tk}:=by
 refine wpAny_pyIter_range (IsRange.new ..) (small_one h1 h2 h3 h4) ?_;have I1:Inv X pins O H {s with heap:=s.heap.push {cls:=.type "range",data:=.fields #[.int lo t,.int hi u,.int 1 v]},toks:=tk}:=I.kept λb o e=>_d _ e;refine⟨(s.heap.push {cls:=.type "range",data:=.fields #[.int lo t,.int hi u,.int 1 v]}).objs.size,[(s.heap.push {cls:=.type "range",data:=.fields #[.int lo t,.int hi u,.int 1 v]}).objs.size],_,_,H,rfl, I1.kept (t':=tk) λb o e=>_d _ e,z9a _ lo (hi-lo).toNat,?_,λb hb=>?_,q⟩
 ·have e1:lo+((0:Nat):Int)*1=lo:=by simp
  have e2:(((hi-lo).toNat:Nat):Int)-((0:Nat):Int)=Builtin.Range.rangeSize lo hi 1:=by rw[rangeSize_one];split<;>omega
  show IsRangeIter _ _ (lo+((0:Nat):Int)*1) ((((hi-lo).toNat:Nat):Int)-((0:Nat):Int)) 1;rw[e1,e2];exact _n _ rfl
 ·have e:b=(s.heap.push {cls:=.type "range",data:=.fields #[.int lo t,.int hi u,.int 1 v]}).objs.size:=by simpa using hb
  subst e;exact I1.fpOk (_h _) (I1.hok.fresh (_h _))
def zjN(ta:TA):TI:=λO H R=>ta O H λvs H1=>∃j:Int,vs=[.int j]/\-(2 ^ 62)<=j/\j<2 ^ 62/\R (Itr 0 j.toNat) H1
def zkj(ta:TA):TI:=λO H R=>ta O H λvs H1=>∃i j:Int,vs=[.int i,.int j]/\(-(2 ^ 62)<=i/\i<2 ^ 62/\-(2 ^ 62)<=j/\j<2 ^ 62)/\R (Itr i (j-i).toNat) H1
theorem zbV{a:Expr}{ta:TA}{p pos:Pos}(hg:Gl X "range")(hm:X.mg "range"=none)(ha:PA X [a] ta)(hs:starEach [a] X.env=[(false,eval a X.env)]:=by rfl):PI X tg (.Call (.Name "range" p) [a] [] pos) (zjN ta):=by
 intro pins s O H R I h;refine Call_ (z0a I hg hm boot_range (_aa (thn (ha pos pins s O H _ I h) λus s1 ⟨vs,H1,I1,r1,q1⟩=>?_) hs rfl));obtain⟨j,e,q1,q2,q⟩:=q1;subst e;cases r1 with | cons r rr=>
  cases rr;obtain⟨t,rfl⟩:=r;exact call_range_1 (z7O I1 (by omega) (by omega) q1 q2 (by simpa using q))
theorem zaD{a b:Expr}{ta:TA}{p pos:Pos}(hg:Gl X "range")(hm:X.mg "range"=none)(ha:PA X [a,b] ta)(hs:starEach [a,b] X.env=[(false,eval a X.env),(false,eval b X.env)]:=by rfl)(hs2:starEach [b] X.env=[(false,eval b X.env)]:=by rfl): PI X tg (.Call (.Name "range" p) [a,b] [] pos) (zkj ta):=by
 intro pins s O H R I h;refine Call_ (z0a I hg hm boot_range (_aa (thn (ha pos pins s O H _ I h) λus s1 ⟨vs,H1,I1,r1,q1⟩=>?_) (by rw[hs,hs2]) (by rw[hs2];rfl)));obtain⟨i,j,e,⟨q1,q2,q3,q4⟩,q⟩:=q1;subst e;cases r1 with | cons r rr=> cases rr with | cons r' rr=>
   cases rr;obtain⟨t,rfl⟩:=r;obtain⟨t',rfl⟩:=r';exact call_range_2 (z7O I1 q1 q2 q3 q4 q)
def zlV(wi:TI)(g:TG)(tb:TS):TS:=λD O H=>wi O H λJ H1=>∃W:Nat->Nat->St->Hp->Prop,(∃m,W 0 m O H1)/\∀i m O H,W i m O H-> (J.stop i H/\D.nx O H)\/(J.go i H/\∃N:St->Hp->Prop,(∀O' H',N O' H'->∃m',m'<m/\W (i+1) m' O' H')/\∀x H',J.yld i H x H'->g x O H' λO2 H2=>tb {D with nx:=N,ct:=N,bk:=D.nx} O2 H2)
def z3W(fp:List Addr)(h:Heap):List (Addr×Obj):=fp.filterMap λb=>(h.get? b).map λo=>(b,o)
theorem uV{fp:List Addr}{h:Heap}{b:Addr}{o:Obj}(hb:b∈fp)(e:h.get? b=some o):(b,o)∈z3W fp h:=_bL.mpr ⟨b,hb,by rw[e];rfl⟩
theorem zaT{fp:List Addr}{h:Heap}{p:Addr×Obj}(hp:p∈z3W fp h):p.1∈fp/\h.get? p.1=some p.2:=by
 obtain⟨b,hb,e⟩:=_bL.mp hp;cases q:h.get? b with
 | none=>rw[q]at e;cases e | some o=>
  rw[q]at e;have e':(b,o)=p:=_K e;subst e';exact⟨hb,q⟩
theorem Inv.pinned{pins:List (Addr×Obj)}{O:St}{H:Hp}{s:Shared}{fp:List Addr}(I:Inv X pins O H s)(hf:∀b∈fp,z3v X pins H b)(ho:∀b∈fp,∃o,s.heap.get? b=some o/\∀v,o.data≠.cell v):Inv X (pins++z3W fp s.heap) O H s:= I.pins_of λp hp=>(_H.mp hp).elim (λz=>I.pin p (_s _ z)) λz=>by
  obtain⟨hb,e⟩:=zaT z;obtain⟨f0,f1,f2,_⟩:=hf p.1 hb;obtain⟨o,e',d⟩:=ho p.1 hb;rw[e]at e';cases e';exact⟨e,f0,f1,f2,d⟩
theorem Inv.unpinned{pins pl:List (Addr×Obj)}{O:St}{H:Hp}{s:Shared}(I:Inv X (pins++pl) O H s):Inv X pins O H s:=I.pins_of λp hp=>I.pin p (_s _ (_af _ hp))
theorem zic{iter:Expr}{body:List Stmt}{wi:TI}{g:TG}{tb:TS}{pos:Pos}(hp:PassesOwn (model X.prog X.w) X.A X.env X.xe)(hc:X.calm=true)(hi:PI X tg iter wi)(hg:PG X tg g)(hb:PSs X body tb) (hs:∀x,foldedSetIterable iter X.env x=pure x:=by intro _;rfl):PS X (.For tg iter body [] pos) (zlV wi g tb):=by
 intro pins s O H D I h;refine wpAny_For (thn (hi pins s O H _ I h) λv s1 h1=>thn h1 λitv s2 h2=>?_) hs;obtain⟨it,fp,tn,J,H2,e,I2,T,st2,f2,W,⟨m0,w0⟩,turn⟩:=h2;subst e;have stat:∀{H':Hp},(∀b∈fp,H' b=none)->∀b∈fp,z3v X pins H' b:=λhn b hb=>⟨hn b hb,(f2 b hb).2⟩;refine codeAny_forLoop_any (λn s'=>∃i O' H',Inv X pins O' H' s'/\tn i s'.heap/\(∀b∈fp,H' b=none)/\W i n O' H') ?_ m0 ⟨0,O,H2,I2,st2,λb hb=>(f2 b hb).1,w0⟩;rintro n s3 ⟨i,O3,H3,I3,st3,fr3,w3⟩;rcases turn i n O3 H3 w3 with⟨stop,qn⟩ | ⟨go,N,hN,step⟩
 ·refine _aW hp (thn (T.done X rfl rfl rfl hc i pins s3 O3 H3 X.xe I3 (stat fr3) st3 stop) λr s4 ⟨hr,I4⟩=>?_);subst hr;exact _cj ⟨O3,H3,I4,qn⟩
 ·refine _aW hp (thn (T.item X rfl rfl rfl hc i pins s3 O3 H3 X.xe I3 (stat fr3) st3 go) λr s4 ⟨u,hr,h4⟩=>?_);subst hr;refine _aW hp (thn h4 λ_ s5 ⟨x,H5,I5,r5,y5,st5,fr5⟩=>?_);have I5':=I5.pinned (stat fr5) (T.obj _ _ st5);refine _aW hp (thn (hg _ s5 O3 H5 x u _ I5' r5 (step x H5 y5)) λ_ s6 ⟨O6,H6,I6,q6⟩=>?_);refine _aW hp (thn (hb _ s6 O6 H6 _ I6 q6) λf s7 q7=>?_);have again:∀{O7:St}{H7:Hp},Inv X (pins++z3W fp s5.heap) O7 H7 s7->N O7 H7->∃m,m<n/\∃i O' H',Inv X pins O' H' s7/\tn i s7.heap/\(∀b∈fp,H' b=none)/\W i m O' H':=λ{O7 H7} I7 n7=>by
   obtain⟨m',hm,w7⟩:=hN O7 H7 n7;refine⟨m',hm,i+1,O7,H7,I7.unpinned,T.keep _ _ _ st5 λb hb o e=>(I7.pin (b,o) (_s _ (_s _ (uV hb e)))).1,λb hb=>?_,w7⟩;obtain⟨o,e,d⟩:=T.obj _ _ st5 b hb;exact (I7.pin (b,o) (_s _ (_s _ (uV hb e)))).2.1
  cases f with
  | next=>obtain⟨O7,H7,I7,n7⟩:=q7;exact again I7 n7 | cont=>obtain⟨O7,H7,I7,n7⟩:=q7;exact again I7 n7 | brk=>obtain⟨O7,H7,I7,q7⟩:=q7;exact⟨O7,H7,I7.unpinned,q7⟩ | ret v=>obtain⟨x7,O7,H7,I7,r7,q7⟩:=q7;exact⟨x7,O7,H7,I7.unpinned,r7,q7⟩
end
abbrev R2:=V->V->Hp->VK->Prop
def OpR(X:Cx)(f:Value->Value->Sem Value)(r:R2):Prop:= ∀(pins:List (Addr×Obj))(s:Shared)(O:St)(H:Hp)(x y:V)(v u:Value)(Q:VK),Inv X pins O H s->yr x v->yr y u->r x y H Q-> wpAny (model X.prog X.w) X.A (f v u) (EP X pins O Q) X.xe s
def UnR(X:Cx)(f:Value->Sem Value)(r:V->Hp->VK->Prop):Prop:= ∀(pins:List (Addr×Obj))(s:Shared)(O:St)(H:Hp)(x:V)(v:Value)(Q:VK),Inv X pins O H s->yr x v->r x H Q-> wpAny (model X.prog X.w) X.A (f v) (EP X pins O Q) X.xe s
def xF(X:Cx)(f:Value)(r:List V->Hp->VK->Prop):Prop:= ∀(pins:List (Addr×Obj))(s:Shared)(O:St)(H:Hp)(xs:List V)(us:List Value)(Q:VK),Inv X pins O H s->yw xs us->r xs H Q-> wpAny (model X.prog X.w) X.A (call f us) (EP X pins O Q) X.xe s
def zm2(X:Cx)(r:V->Hp->(Bool->Hp->Prop)->Prop):Prop:= ∀(pins:List (Addr×Obj))(s:Shared)(O:St)(H:Hp)(x:V)(v:Value)(Q:Bool->Hp->Prop),Inv X pins O H s->yr x v->r x H Q-> wpAny (model X.prog X.w) X.A (truthy v) (TP X pins O Q) X.xe s
def tOp(r:R2)(ta tb:TE):TE:=λO H Q=>ta O H λx H1=>tb O H1 λy H2=>r x y H2 Q
def tUn(r:V->Hp->VK->Prop)(ta:TE):TE:=λO H Q=>ta O H λx H1=>r x H1 Q
def rI(C:Int->Int->Prop)(g:Int->Int->V):R2:=λx y H Q=>∃i j,x=.int i/\y=.int j/\C i j/\Q (g i j) H
def rI0(g:Int->Int->V):R2:=λx y H Q=>∃i j,x=.int i/\y=.int j/\Q (g i j) H
def rU(g:Int->V):V->Hp->VK->Prop:=λx H Q=>∃i,x=.int i/\Q (g i) H
section
variable {X:Cx}{a b c:Expr}{ta tb tc:TE}{pos:Pos}
theorem zkW(ha:PE X a ta)(hb:PE X b tb){pins:List (Addr×Obj)}{s:Shared}{O:St}{H:Hp}{R:V->V->Hp->Prop}(I:Inv X pins O H s) (h:ta O H λx H1=>tb O H1 λy H2=>R x y H2){Q:Value->Shared->Prop}{f:Value->Value->Sem Value} (hf:∀v u s2 x y H2,Inv X pins O H2 s2->yr x v->yr y u->R x y H2->wpAny (model X.prog X.w) X.A (f v u) Q X.xe s2): wpAny (model X.prog X.w) X.A (eval a X.env) (λv s₁=>wpAny (model X.prog X.w) X.A (eval b X.env) (λu s₂=>wpAny (model X.prog X.w) X.A (f v u) Q X.xe s₂) X.xe s₁) X.xe s:=by
 refine thn (ha pins s O H _ I h) λv s1 ⟨x,H1,I1,r1,q1⟩=>?_;refine thn (hb pins s1 O H1 _ I1 q1) λu s2 ⟨y,H2,I2,r2,q2⟩=>?_;exact hf v u s2 x y H2 I2 r1 r2 q2
theorem zjE{op:Operator}{r:R2}(ho:OpR X (binaryOp op) r)(ha:PE X a ta)(hb:PE X b tb):PE X (.BinOp a op b pos) (tOp r ta tb):=by
 intro pins s O H Q I h;exact wpAny_BinOp (zkW ha hb I h λv u s2 x y H2 I2 rx ry q=>ho pins s2 O H2 x y v u Q I2 rx ry q)
theorem ziL{op:UnaryOp}{r:V->Hp->VK->Prop}(ho:UnR X (unaryOp op) r)(ha:PE X a ta):PE X (.UnaryOp op a pos) (tUn r ta):=by
 intro pins s O H Q I h;exact UnaryOp_ (thn (ha pins s O H _ I h) λv s1 ⟨x,H1,I1,r1,q1⟩=>ho pins s1 O H1 x v Q I1 r1 q1)
theorem opI {f:Value->Value->Sem Value} {C:Int->Int->Prop} {g:Int->Int->Int} (rule:∀(i j:Int) (t u:Tok) (s:Shared) (Q:Value->Shared->Prop) (E:Value->Shared->Prop),C i j->Q (.int (g i j) s.toks) {s with toks:=s.toks+1}->wpAny (model X.prog X.w) X.A (f (.int i t) (.int j u)) Q E s): OpR X f (rI C λi j=>.int (g i j)):=by
 intro pins s O H x y v u Q I rx ry h;obtain⟨i,j,rfl,rfl,hc,q⟩:=h;obtain⟨t,rfl⟩:=rx;obtain⟨t',rfl⟩:=ry;exact rule i j t t' s _ _ hc ⟨.int (g i j),H,I.tok _,⟨_,rfl⟩,q⟩
theorem zlf {f:Value->Value->Sem Value} {g:Int->Int->Int} (rule:∀(i j:Int) (t u:Tok) (s:Shared) (Q:Value->Shared->Prop) (E:Value->Shared->Prop),Q (.int (g i j) s.toks) {s with toks:=s.toks+1}->wpAny (model X.prog X.w) X.A (f (.int i t) (.int j u)) Q E s): OpR X f (rI0 λi j=>.int (g i j)):=by
 intro pins s O H x y v u Q I rx ry h;obtain⟨i,j,rfl,rfl,q⟩:=h;obtain⟨t,rfl⟩:=rx;obtain⟨t',rfl⟩:=ry;exact rule i j t t' s _ _ ⟨.int (g i j),H,I.tok _,⟨_,rfl⟩,q⟩
theorem zjB{f:Value->Value->Sem Value}{g:Int->Int->Bool} (rule:∀(i j:Int)(t u:Tok)(s:Shared)(Q:Value->Shared->Prop)(E:Value->Shared->Prop),Q (.bool (g i j)) s->wpAny (model X.prog X.w) X.A (f (.int i t) (.int j u)) Q E s): OpR X f (rI0 λi j=>.bl (g i j)):=by
 intro pins s O H x y v u Q I rx ry h;obtain⟨i,j,rfl,rfl,q⟩:=h;obtain⟨t,rfl⟩:=rx;obtain⟨t',rfl⟩:=ry;exact rule i j t t' s _ _ ⟨.bl (g i j),H,I,rfl,q⟩
def zlA(i j:Int):Prop:=0<=j/\j<=1000000/\i.natAbs<2 ^ 64
theorem zia:OpR X (binaryOp .Add) (rI0 λi j=>.int (i+j)):=zlf λ_ _ _ _ _ _ _ q=>add_int q
theorem zhc:OpR X (binaryOp .Sub) (rI0 λi j=>.int (i-j)):=zlf λ_ _ _ _ _ _ _ q=>sub_int q
theorem zhm:OpR X (binaryOp .Mod) (rI (λ_ j=>0<j) λi j=>.int (i % j)):=opI λi j _ _ _ _ _ hc q=>by
 have h1:(0:Int)<j:=hc;exact mod_int' (by omega) (by rw[Int.fmod_eq_emod_of_nonneg i (by omega)];exact q)
theorem ziM:OpR X (binaryOp .Pow) (rI zlA λi j=>.int (i ^ j.toNat)):=opI λ_ _ _ _ _ _ _ hc q=>pow_int_small hc.1 hc.2.1 hc.2.2 q
theorem unI {f:Value->Sem Value} {g:Int->Int} (rule:∀(i:Int) (t:Tok) (s:Shared) (Q:Value->Shared->Prop) (E:Value->Shared->Prop),Q (.int (g i) s.toks) {s with toks:=s.toks+1}->wpAny (model X.prog X.w) X.A (f (.int i t)) Q E s): UnR X f (rU λi=>.int (g i)):=by
 intro pins s O H x v Q I rx h;obtain⟨i,rfl,q⟩:=h;obtain⟨t,rfl⟩:=rx;exact rule i t s _ _ ⟨.int (g i),H,I.tok _,⟨_,rfl⟩,q⟩
theorem zeb:UnR X (unaryOp .USub) (rU λi=>.int (-i)):=unI λ_ _ _ _ _ q=>neg_int q
end
section
variable {X:Cx}{a b c:Expr}{ta tb tc:TE}{pos:Pos}
theorem zkR:OpR X (compareOp .Lt) (rI0 λi j=>.bl (decide (i<j))):=zjB λ_ _ _ _ _ _ _ q=>lt_int q
theorem zjG:OpR X (compareOp .LtE) (rI0 λi j=>.bl (decide (i<=j))):=zjB λ_ _ _ _ _ _ _ q=>le_int q
theorem zkf:OpR X (compareOp .Gt) (rI0 λi j=>.bl (decide (j<i))):=zjB λ_ _ _ _ _ _ _ q=>gt_int q
theorem zko:OpR X (compareOp .GtE) (rI0 λi j=>.bl (decide (j<=i))):=zjB λ_ _ _ _ _ _ _ q=>ge_int q
theorem OpR.or{f:Value->Value->Sem Value}{r r':R2}(h:OpR X f r)(h':OpR X f r'):OpR X f (λx y H Q=>r x y H Q\/r' x y H Q):=by
 intro pins s O H x y v u Q I rx ry q;rcases q with q | q;·exact h pins s O H x y v u Q I rx ry q
 ·exact h' pins s O H x y v u Q I rx ry q
theorem zeB(b:Expr){op:CmpOp}(h:op≠.In:=by decide)(h2:op≠.NotIn:=by decide):behindInMarks op b=false:=by
 have e1:(op==CmpOp.In)=false:=by cases op<;>first | rfl | exact absurd rfl h
 have e2:(op==CmpOp.NotIn)=false:=by cases op<;>first | rfl | exact absurd rfl h2
 cases b<;>simp[behindInMarks,e1,e2]
theorem zbw{op:CmpOp}{r:R2}(ho:OpR X (compareOp op) r)(ha:PE X a ta)(hb:PE X b tb)(hm:behindInMarks op b=false):PE X (.Compare a [op] [b] pos) (tOp r ta tb):=by
 intro pins s O H Q I h;exact wpAny_Compare1 (zkW ha hb I h λv u s2 x y H2 I2 rx ry q=>ho pins s2 O H2 x y v u Q I2 rx ry q) hm
def zfC(t:TE):TT:=λO H Q=>t O H λx H'=>∃k,x=.bl k/\Q k H'
theorem zfp{op:CmpOp}{r:R2}(ho:OpR X (compareOp op) r)(ha:PE X a ta)(hb:PE X b tb)(hm:behindInMarks op b=false):PT X (.Compare a [op] [b] pos) (zfC (tOp r ta tb)):=by
 intro pins s O H Q I h;refine wpAny_isTrue_Compare1 (thn (ha pins s O H _ I h) λv s1 ⟨x,H1,I1,r1,q1⟩=>thn (hb pins s1 O H1 _ I1 q1) λu s2 ⟨y,H2,I2,r2,q2⟩=> thn (ho pins s2 O H2 x y v u _ I2 r1 r2 q2) λc s3 ⟨z,H3,I3,r3,k,e,q3⟩=>?_) hm;subst e;cases r3;exact _ae ⟨H3,I3,q3⟩
def zar(r r':R2)(ta tb tc:TE):TE:=λO H Q=>ta O H λx H1=>tb O H1 λy H2=>r x y H2 λz H3=>∃k,z=.bl k/\ (if k=true then tc O H3 λw' H4=>r' y w' H4 Q else Q (.bl false) H3)
theorem zdb{op op':CmpOp}{r r':R2}(ho:OpR X (compareOp op) r)(ho':OpR X (compareOp op') r')(ha:PE X a ta)(hb:PE X b tb)(hc:PE X c tc) (hm:lastMarks [op,op'] [b,c]=false:=by with_unfolding_all rfl):PE X (.Compare a [op,op'] [b,c] pos) (zar r r' ta tb tc):=by
 intro pins s O H Q I h;refine Compare_chain (thn (ha pins s O H _ I h) λv s1 ⟨x,H1,I1,r1,q1⟩=>chain_link (thn (hb pins s1 O H1 _ I1 q1) λu s2 ⟨y,H2,I2,r2,q2⟩=> thn (ho pins s2 O H2 x y v u _ I2 r1 r2 q2) λd s3 ⟨z,H3,I3,r3,k,e,q3⟩=>?_)) hm;subst e;cases r3;refine _ae ?_;cases k with
 | false=>exact ite_ff ⟨.bl false,H3,I3,rfl,q3⟩ | true=>exact ite_tt (chain_last (thn (hc pins s3 O H3 _ I3 q3) λw' s4 ⟨z',H4,I4,r4,q4⟩=>ho' pins s4 O H4 y z' u w' Q I4 r2 r4 q4))
theorem zdj{op op':CmpOp}{r r':R2}(ho:OpR X (compareOp op) r)(ho':OpR X (compareOp op') r')(ha:PE X a ta)(hb:PE X b tb)(hc:PE X c tc) (hm:lastMarks [op,op'] [b,c]=false:=by with_unfolding_all rfl):PT X (.Compare a [op,op'] [b,c] pos) (zfC (zar r r' ta tb tc)):=by
 intro pins s O H Q I h;refine isTrue_chain (thn (ha pins s O H _ I h) λv s1 ⟨x,H1,I1,r1,q1⟩=>test_link (thn (hb pins s1 O H1 _ I1 q1) λu s2 ⟨y,H2,I2,r2,q2⟩=> thn (ho pins s2 O H2 x y v u _ I2 r1 r2 q2) λd s3 ⟨z,H3,I3,r3,k,e,q3⟩=>?_)) hm;subst e;cases r3;refine _ae ?_;cases k with
 | false=>
  obtain⟨k',e',q'⟩:=q3;cases e';exact ite_ff ⟨H3,I3,q'⟩ | true=>
  refine ite_tt (test_last (thn (hc pins s3 O H3 _ I3 q3) λw' s4 ⟨z',H4,I4,r4,q4⟩=>thn (ho' pins s4 O H4 y z' u w' _ I4 r2 r4 q4) λd' s5 ⟨z2,H5,I5,r5,k2,e2,q5⟩=>?_));subst e2;cases r5;exact _ae ⟨H5,I5,q5⟩
def zlm(K:W.Frag)(x:V)(H:Hp)(k:Bool):Prop:= match x with
 | .non=>k=false | .bl b=>k=b | .int i=>k=(i != 0) | .str y=>y.length<=sizeLine/\k=((y.length:Int) != 0) | .byt y=>y.size<=sizeLine/\k=((y.size:Int) != 0) | .ref p=>(∃xs,SqL K H p xs/\k=!xs.isEmpty)\/(∃xs,SqT K H p xs/\k=!xs.isEmpty)\/∃kvs,H p=some (.dK kvs)/\k=!kvs.isEmpty | _=>False
theorem z9v{κ:Type}{kvs:List (κ×V)}{vs:List (κ×Value)}(r:KV kvs vs):(!vs.isEmpty)=!kvs.isEmpty:=by cases r<;>rfl
theorem z3x{xs:List V}{its:List Value}(r:yw xs its):(!its.toArray.isEmpty)=!xs.isEmpty:=by cases r<;>simp
theorem z5T:(sizeLine:Nat)<2 ^ 63:=by rw[sizeLine_eq];decide
theorem zhS:zm2 X (λx H Q=>∃k,zlm X.K x H k/\Q k H):=by
 intro pins s O H x v Q I rx h;obtain⟨k,e,q⟩:=h;have hl:=z5T;have hs:sizeLine=16777216:=sizeLine_eq;cases x with
 | non=>
  cases rx;have e':k=false:=e;subst e';exact truthy_none ⟨H,I,q⟩ | bl b=>
  cases rx;have e':k=b:=e;subst e';exact _ae ⟨H,I,q⟩ | int i=>
  obtain⟨t,rfl⟩:=rx;have e':k=(i != 0):=e;subst e';exact PySem.P.truthy_int ⟨H,I,q⟩ | str y=>
  obtain⟨t,rfl⟩:=rx;obtain⟨hy,e'⟩:y.length<=sizeLine/\k=((y.length:Int) != 0):=e;subst e';exact PySem.P.truthy_str (by omega) ⟨H,I.tok _,q⟩ | byt y=>
  obtain⟨t,rfl⟩:=rx;obtain⟨hy,e'⟩:y.size<=sizeLine/\k=((y.size:Int) != 0):=e;subst e';exact W.truthy_bytes (by omega) ⟨H,I.tok _,q⟩ | ref p=>
  cases rx;have e':(∃xs,SqL X.K H p xs/\k=!xs.isEmpty)\/(∃xs,SqT X.K H p xs/\k=!xs.isEmpty)\/∃kvs,H p=some (.dK kvs)/\k=!kvs.isEmpty:=e;rcases e' with⟨xs,hx,e'⟩ | ⟨xs,hx,e'⟩ | ⟨kvs,hx,e'⟩
  ·subst e';obtain⟨its,r,pl,hz⟩:=I.list hx;have hlen:=r.length;exact wpAny_truthy_list pl.isList (by simp only[_k];omega) ⟨H,I.tok _,by rw[z3x r];exact q⟩
  ·subst e';obtain⟨its,r,pl,hz⟩:=I.tuple hx;have hlen:=r.length;exact truthy_tuple pl (by simp only[_k];omega) ⟨H,I.tok _,by rw[z3x r];exact q⟩
  ·subst e';obtain⟨hz,hS,vs,r,m⟩:kvs.length<=sizeLine/\(p==sysModules)=false/\∃vs,KV kvs vs/\s.heap.DictOf (zK X.prog X.w) p vs:=I.hok p _ hx;have hlen:kvs.length=vs.length:=_cd r;exact wpAny_truthy_dict hS m (by omega) ⟨H,I.tok _,by rw[z9v r];exact q⟩ | _=>exact (show False from e).elim
theorem zcF(ha:PE X a ta)(he:∀whole,isTrue a X.env whole=(do let v <- whole;standAt a.pos;holding [v] (truthy v))): PT X a (λO H Q=>ta O H λx H'=>∃k,zlm X.K x H' k/\Q k H'):=by
 intro pins s O H Q I h;exact isTrue_plain (thn (ha pins s O H _ I h) λv s1 ⟨x,H1,I1,r1,q1⟩=>zhS pins s1 O H1 x v Q I1 r1 q1) (he _)
theorem z93:OpR X (binaryOp .Add) (λx y H Q=>∃i j,x=.str i/\y=.str j/\i.length+j.length<=sizeLine/\Q (.str (i++j)) H):=by
 intro pins s O H x y v u Q I rx ry h;obtain⟨i,j,rfl,rfl,hz,q⟩:=h;obtain⟨t,rfl⟩:=rx;obtain⟨t',rfl⟩:=ry;exact add_str (λt' tk=>⟨.str (i++j),H,I.tok _,⟨_,rfl⟩,q⟩) hz
theorem vals1{x:V}{us:List Value}(r:yw [x] us):∃u,us=[u]/\yr x u:=by cases r with | cons r1 r2=>cases r2;exact⟨_,rfl,r1⟩
theorem vals2{x y:V}{us:List Value}(r:yw [x,y] us):∃u w',us=[u,w']/\yr x u/\yr y w':=by cases r with | cons r1 r2=> cases r2 with | cons r3 r4=>cases r4;exact⟨_,_,rfl,r1,r3⟩
theorem zb4(hc:X.calm=true):xF X (.builtin "max") (λxs H Q=>∃i j,xs=[.int i,.int j]/\Q (.int (if j > i then j else i)) H):=by
 intro pins s O H xs us Q I r h;obtain⟨i,j,rfl,q⟩:=h;obtain⟨u,w',rfl,⟨t,rfl⟩,⟨t',rfl⟩⟩:=vals2 r;refine max_two_ints (I.ok.hd hc) λh' tk k=>⟨_,H,I.kept k,?_,q⟩;by_cases hj:j > i;·rw[_e hj,_e hj];exact⟨_,rfl⟩
 ·rw[_j hj,_j hj];exact⟨_,rfl⟩
theorem za7(hc:X.calm=true):xF X (.builtin "min") (λxs H Q=>∃i j,xs=[.int i,.int j]/\Q (.int (if j<i then j else i)) H):=by
 intro pins s O H xs us Q I r h;obtain⟨i,j,rfl,q⟩:=h;obtain⟨u,w',rfl,⟨t,rfl⟩,⟨t',rfl⟩⟩:=vals2 r;refine min_two_ints (I.ok.hd hc) λh' tk k=>⟨_,H,I.kept k,?_,q⟩;by_cases hj:j<i;·rw[_e hj,_e hj];exact⟨_,rfl⟩
 ·rw[_j hj,_j hj];exact⟨_,rfl⟩
end
structure zl0(h:Heap)(x dx C:Addr)(mA:Str->Option Value):Prop where
 obj:h.get? x=some (W.instObj C dx)
 ns:h.Ns1 dx mA
 ne:dx≠x
theorem zbs{h:Heap}{dx:Addr}{mA:Str->Option Value}(n:h.Ns1 dx mA):∃od,h.get? dx=some od/\∀name,W.lookIn name od=some (mA name):=by
 obtain⟨o,es,ep,ho,hd,hk,_,hm⟩:=n;refine⟨o,ho,λname=>?_⟩;have e:=hm name;unfold nsFind findBy at e;rw[<- Array.find?_toList]at e;unfold W.lookIn;rw[hd];dsimp only;split
 ·rename_i y q;rw[q]at e;exact _a0 some e
 ·rename_i q;rw[q]at e;have a:es.toList.any (·.refKey)=false:=by
   rw[List.any_eq_false];intro y hy;obtain⟨z,t,hkey⟩:=hk y (Array.mem_toList_iff.mp hy);simp[DictEntry.refKey,hkey]
  have a':¬ es.toList.any (·.refKey)=true:=by rw[a];exact _R
  rw[_j a'];exact _a0 some e
theorem zl0.look{h:Heap}{x dx C:Addr}{mA:Str->Option Value}(I:zl0 h x dx C mA):∃od,W.InstAt h x (W.instObj C dx) C (some od)/\∀name,W.lookIn name od=some (mA name):= let ⟨od,ho,hl⟩:=zbs I.ns;⟨od,⟨I.obj,rfl,rfl,ho⟩,hl⟩
theorem z9L.some_of{v:V}{o:Option Value}(r:z9L (some v) o):∃u,o=some u/\yr v u:=by cases o with
 | none=>exact (show False from r).elim | some u=>exact⟨u,rfl,r⟩
section
variable {P:Program}{w:World}{H H':Hp}{h h':Heap}{a C dx:Addr}{fs fs':List (Str×V)}
theorem zfL(hok:HOk P w H h)(e:H a=some (.ins C dx fs)):∃mA,zl0 h a dx C mA/\(∀f,z9L (fs.lookup f) (mA f))/\PySem.Within mA (fs.map (·.1))/\fs.length<=1000/\H dx=some (.own a):=by
 obtain⟨d,z,ne,ob,mA,n,r,q⟩:=(show yM P w H h a (.ins C dx fs) from hok a _ e);exact⟨mA,⟨ob,n,ne⟩,r,q,z,d⟩
end
structure Cls(K:W.Frag)(C:Addr):Prop where
 pg:W.plainGet K C Str.empty=true
 hd:W.hasDictIn K C=true
 po:W.plainOver K C=true
 sa:W.findIn K (.ref C) "__setattr__"=some (some (.builtin "object.__setattr__"))
theorem Cls.get{K:W.Frag}{C:Addr}(c:Cls K C)(f:Str):W.plainGet K C f=true:=c.pg
section
variable {X:Cx}{pins:List (Addr×Obj)}{O:St}{H:Hp}{s:Shared}{A:Around}{E:Value->Shared->Prop}{Q:Value->Shared->Prop}{c:Value}{b:Bool}
inductive z8I(K:W.Frag)(H:Hp):V->Value->Prop where | non:z8I K H .non (.type "NoneType") | bl (x:Bool):z8I K H (.bl x) (.type "bool") | int (i:Int):z8I K H (.int i) (.type "int") | str (x:Str):z8I K H (.str x) (.type "str") | flt (x:UInt64):z8I K H (.flt x) (.type "float") | lst {a:Addr}{xs:List V}(e:H a=some (.lst xs)):z8I K H (.ref a) (.type "list") | frz {a:Addr}{o:Obj}{xs:List V}(e:H a=some (.frz o (.lst xs))):z8I K H (.ref a) (.type "list") | tup {a:Addr}{xs:List V}(e:H a=some (.tup xs)):z8I K H (.ref a) (.type "tuple") | dK {a:Addr}{kvs:List (Key×V)}(e:H a=some (.dK kvs)):z8I K H (.ref a) (.type "dict") | dT {a:Addr}{kvs:List (List Key×V)}(e:H a=some (.dT kvs)):z8I K H (.ref a) (.type "dict") | ins {a C dx:Addr}{fs:List (Str×V)}(e:H a=some (.ins C dx fs))(cl:Cls K C)(ha:W.findIn K (.ref C) "__class__"=some (some (.builtin "object.__class__"))) (hn:W.specialIn K (.builtin "object.__class__") "__get__"=some (some (.builtin "getset_descriptor.__get__")))(htk:W.takesIn K (.builtin "object.__class__")=some true) (hm:W.mroIn K C (.type "object")=some true):z8I K H (.ref a) (.ref C)
theorem zaI {x:V} {u t:Value} (I:Inv X pins O H s) (rx:yr x u) (ty:z8I X.K H x t) (e:W.kitOne X.K t c=some b) (h:∀tk,Q (.bool b) {s with toks:=tk}): wpAny (model X.prog X.w) A (call (.builtin "isinstance") [u,c]) Q E s:=by cases ty with
 | non=>cases (show u=Value.none from rx);exact _a8 W.kitx_none I.kIn True.intro e (λz=>nomatch z) h | bl y=>cases (show u=Value.bool y from rx);exact _a8 W.kitx_bool I.kIn True.intro e (λz=>nomatch z) h | int i=>obtain⟨t,q⟩:=(show ∃t,u=Value.int i t from rx);cases q;exact _a8 W.kitx_int I.kIn True.intro e (λz=>nomatch z) h | str y=>obtain⟨t,q⟩:=(show ∃t,u=Value.str y t from rx);cases q;exact _a8 W.kitx_str I.kIn True.intro e (λz=>nomatch z) h | flt y=>obtain⟨t,q⟩:=(show ∃t,u=Value.float y t from rx);cases q;exact _a8 W.kitx_float I.kIn True.intro e (λz=>nomatch z) h | @lst a xs ea=>
  cases (show u=Value.ref a from rx);obtain⟨_,_,n,_,h1⟩:=(show yM X.prog X.w H s.heap a (.lst xs) from I.hok a _ ea);exact _a8 W.kitx_list I.kIn ⟨_,h1,rfl⟩ e (λz=>nomatch z) h | @frz a ob xs ea=>
  cases (show u=Value.ref a from rx);obtain⟨_,_,_,n,_,h1⟩:=(show yM X.prog X.w H s.heap a (.frz ob (.lst xs)) from I.hok a _ ea);exact _a8 W.kitx_list I.kIn ⟨_,h1,rfl⟩ e (λz=>nomatch z) h | @tup a xs ea=>
  cases (show u=Value.ref a from rx);obtain⟨_,_,_,p⟩:=(show yM X.prog X.w H s.heap a (.tup xs) from I.hok a _ ea);obtain⟨o,h1,h2,_⟩:=p;exact _a8 W.kitx_tuple I.kIn ⟨o,h1,h2⟩ e (λz=>nomatch z) h | @dK a kvs ea=>
  cases (show u=Value.ref a from rx);obtain⟨_,_,vs,_,p⟩:=(show yM X.prog X.w H s.heap a (.dK kvs) from I.hok a _ ea);obtain⟨o,es,ep,h1,h2,_⟩:=p;exact _a8 W.kitx_dict I.kIn ⟨o,h1,h2.1⟩ e (λz=>nomatch z) h | @dT a kvs ea=>
  cases (show u=Value.ref a from rx);obtain⟨_,_,xs,_,o,es,ep,h1,h2,_⟩:=(show yM X.prog X.w H s.heap a (.dT kvs) from I.hok a _ ea);exact _a8 W.kitx_dict I.kIn ⟨o,h1,h2.1⟩ e (λz=>nomatch z) h | @ins a C dx fs ea cl ha hn htk hm=>
  cases (show u=Value.ref a from rx);obtain⟨mA,Oo,_⟩:=zfL I.hok ea;obtain⟨od,J,_⟩:=Oo.look;exact _a8 (W.kitx_own (cl.get _) cl.hd ha hn htk hm) I.kIn J e (λz=>nomatch z) h
end
structure z0e(k:Nat)(A:Around):Prop where
 hd:A.handled=none
 dp:A.depth+3*k+5<recursionLimit
 un:A.units+16*k+200<cLine
 gd:A.guards=some []
theorem z0e.mono{j k:Nat}{A:Around}(r:z0e k A)(h:j<=k):z0e j A:=⟨r.hd,by have:=r.dp;omega,by have:=r.un;omega,r.gd⟩
theorem z0e.deeper{k:Nat}{A:Around}(r:z0e (k+1) A)(env:Env):z0e k (A.deeper env):= ⟨r.hd,by have:=r.dp;show A.depth+1+3*k+5<_;omega,by have:=r.un;show A.units+3+16*k+200<_;omega,r.gd⟩
theorem z0e.depth{k:Nat}{A:Around}(r:z0e k A):A.depth<recursionLimit:=by have:=r.dp;omega
theorem z0e.units{k:Nat}{A:Around}(r:z0e k A):A.units+64<cLine:=by have:=r.un;omega
def zl7:TA:=λ_ H Q=>Q [] H
def zk8(ta:TE)(tr:TA):TA:=λO H Q=>ta O H λx H1=>tr O H1 λxs H2=>Q (x::xs) H2
section
variable {X:Cx}{e:Expr}{es:List Expr}{te:TE}{t:TA}{pos:Pos}
theorem kY:PA X [] zl7:=λ_ _ _ _ H Q I h=>_cJ ⟨[],H,I,.nil,h⟩
theorem wS(ha:PE X e te)(hr:PA X es t)(hs:starEach (e::es) X.env=(false,eval e X.env)::starEach es X.env:=by rfl):PA X (e::es) (zk8 te t):=by
 intro pos pins s O H Q I h;rw[hs];show wpAny _ _ (spliced ((false,eval e X.env)::backTo pos (starEach es X.env))) _ _ s;refine _bM (thn (ha pins s O H _ I h) λu s1 ⟨x,H1,I1,r1,q1⟩=>?_);exact thn (hr pos pins s1 O H1 _ I1 q1) λus s2 ⟨xs,H2,I2,r2,q2⟩=>⟨x::xs,H2,I2,.cons r1 r2,q2⟩
def zlL(t:TA):TE:=λO H Q=>t O H λxs H1=>xs.length<=sizeLine/\∀p,H1 p=none->Q (.ref p) (upd H1 p (.tup xs))
def zlu(t:TA):TE:=λO H Q=>t O H λxs H1=>xs.length<=sizeLine/\∀p,H1 p=none->Q (.ref p) (upd H1 p (.lst xs))
theorem zhs{x1}(h:PA X es t):PE X (.Tuple es x1 pos) (zlL t):=by
 intro pins s O H Q I hq;refine wpAny_Tuple_spliced (thn (h pos pins s O H _ I hq) λus s1 ⟨xs,H1,I1,r,z,q⟩=>⟨by rw[<- r.length];exact z,?_⟩);have hf:H1 s1.heap.objs.size=none:=I1.hok.fresh (_h _);refine⟨.ref s1.heap.objs.size,upd H1 s1.heap.objs.size (.tup xs),I1.laid (t':=s1.toks) (λb u e=>_d _ e) (_h _) ?_,rfl,q _ hf⟩;exact⟨z,us,r,⟨_,_n _ rfl,rfl,rfl,_,rfl⟩⟩
theorem zeC(h:PA X es t):PE X (.List es pos) (zlu t):=by
 intro pins s O H Q I hq;refine wpAny_List_spliced (thn (h pos pins s O H _ I hq) λus s1 ⟨xs,H1,I1,r,z,q⟩=>⟨by rw[<- r.length];exact z,?_⟩);have hf:H1 s1.heap.objs.size=none:=I1.hok.fresh (_h _);refine⟨.ref s1.heap.objs.size,upd H1 s1.heap.objs.size (.lst xs),I1.laid (t':=s1.toks) (λb u e=>_d _ e) (_h _) ?_,rfl,q _ hf⟩;exact⟨z,us,0,r,_n _ rfl⟩
end
abbrev Sp:=List V->Hp->VK->XK->Prop
abbrev CXT:=List Env->Hp->Shared->XK->Value->Shared->Prop
structure zhR(P:Program)(w:World)(K:W.Frag)(mg:Str->Option Value)(base:Heap)(A:Around)(outer:List Env)(s:Shared)(H:Hp):Prop where
 frames:A.frames=some outer
 mod:Mod K mg base
 bs:∀b o,base.get? b=some o->s.heap.get? b=some o/\H b=none
 bsz:base.objs.size<=s.heap.objs.size
 funs:s.heap.FunFrames base outer
 frf:∀b∈frs outer,H b=none
 hok:HOk P w H s.heap
 bare:AllBare s.gens
def CE(outer:List Env)(P:Program)(w:World)(H:Hp)(s:Shared)(Q:VK)(u:Value)(s':Shared):Prop:= ∃v H',s'.os=s.os/\AllBare s'.gens/\Un (frs outer) [] H H' s.heap s'.heap/\HOk P w H' s'.heap/\yr v u/\Q v H'
def CR(CX:CXT)(outer:List Env)(P:Program)(w:World)(H:Hp)(s:Shared)(Q:VK)(E:XK)(r:Result)(s':Shared):Prop:= match r with
 | .ok (.ret u)=>CE outer P w H s Q u s' | .ok _=>False | .error e=>CX outer H s E e s'
structure z4y(P:Program)(w:World)(K:W.Frag)(mg:Str->Option Value)(base:Heap)(CX:CXT)(k:Nat)(f:Addr)(fd:FuncData)(ps:List Str)(sp:Sp):Prop where
 len:∀vs H Q E,sp vs H Q E->vs.length=ps.length
 run:∀(A:Around)(outer:List Env)(s:Shared)(H:Hp)(args:Args)(us:List Value)(vs:List V)(Q:VK)(E:XK),z0e k A->zhR P w K mg base A outer s H->BindsTo s fd args (ps.zip us)->yw vs us->sp vs H Q E-> codeAny (model P w) A (.call (.ref f) args) (CR CX outer P w H s Q E) s
theorem z4y.mono{P:Program}{w:World}{K:W.Frag}{mg:Str->Option Value}{base:Heap}{CX:CXT}{j k:Nat}{f:Addr}{fd:FuncData}{ps:List Str}{sp:Sp}(F:z4y P w K mg base CX j f fd ps sp)(h:j<=k): z4y P w K mg base CX k f fd ps sp:=⟨F.len,λA outer s H args us vs Q E hr=>F.run A outer s H args us vs Q E (hr.mono h)⟩
theorem z4y.imp{P:Program}{w:World}{K:W.Frag}{mg:Str->Option Value}{base:Heap}{CX:CXT}{k:Nat}{f:Addr}{fd:FuncData}{ps:List Str}{sp sp':Sp}(F:z4y P w K mg base CX k f fd ps sp) (h:∀vs H Q E,sp' vs H Q E->sp vs H Q E):z4y P w K mg base CX k f fd ps sp':= ⟨λvs H Q E q=>F.len vs H Q E (h _ _ _ _ q),λA outer s H args us vs Q E hr he hb hv hs=>F.run A outer s H args us vs Q E hr he hb hv (h _ _ _ _ hs)⟩
section
variable {X:Cx}{pins:List (Addr×Obj)}{O:St}{H:Hp}{s s':Shared}
theorem Inv.env0(I:Inv X pins O H s):zhR X.prog X.w X.K X.mg X.base X.A X.stack s H:= ⟨I.ok.frames,I.ok.mod,I.bs,_S I.ok.bsz I.sz,I.stack,I.stkFree,I.hok,I.bare⟩
theorem Inv.after {Q:VK} {u:Value} (I:Inv X pins O H s) (h:CE X.stack X.prog X.w H s Q u s'):EP X pins O Q u s':=by
 obtain⟨v,H',os,bare,un,hok,r,q⟩:=h;obtain⟨hh,g,d,t,os'⟩:=s';obtain rfl:os'=s.os:=os;exact⟨v,H',I.call (h':=hh) (g':=g) (d':=d) (t':=t) (ch:=[]) un hok bare (λb z=>absurd z (by simp)),r,q⟩
end
def zfa(sp:Sp)(dvs:List V)(E:XK)(t:TA):TE:=λO H Q=>t O H λvs H1=>sp (vs++dvs) H1 Q E
def Binds(K:W.Frag)(fd:FuncData)(ps:List Str)(ds:List Value):Prop:= ∀(s:Shared)(us:List Value),K.In s.heap->(us++ds).length=ps.length->BindsTo s fd ⟨us,[]⟩ (ps.zip (us++ds))
theorem Binds.all{K:W.Frag}{fd:FuncData}{ps:List Str}(h:∀us:List Value,us.length=ps.length->bindArgs fd ⟨us,[]⟩=pure (ps.zip us)):Binds K fd ps []:=λs us _ hl=>by
 rw[_aD]at hl ⊢;exact .of_eq (h us hl)
def Passes(CX:CXT)(X:Cx)(E:XK):Prop:=∀(pins:List (Addr×Obj))(O:St)(H:Hp)(s:Shared)(e:Value)(s':Shared),Inv X pins O H s->CX X.stack H s E e s'->X.xe e s'
section
variable {X:Cx}{CX:CXT}{k:Nat}{f C:Addr}{fd:FuncData}{ps:List Str}{sp:Sp}{dvs:List V}{ds:List Value}{E:XK}{x m:Str}{p pos apos:Pos}{e o:Expr}{es:List Expr}{ta:TE}{t:TA}
theorem z8K{pins:List (Addr×Obj)}{O:St}{H:Hp}{s:Shared}{Q:VK}{us:List Value}{vs:List V}(F:z4y X.prog X.w X.K X.mg X.base CX k f fd ps sp)(hr:z0e k X.A)(hb:Binds X.K fd ps ds)(hd:yw dvs ds)(hx:Passes CX X E) (I:Inv X pins O H s)(r:yw vs us)(h:sp (vs++dvs) H Q E):wpAny (model X.prog X.w) X.A (call (.ref f) us) (EP X pins O Q) X.xe s:=by
 have r2:yw (vs++dvs) (us++ds):=r.append hd;have hl:(us++ds).length=ps.length:=by rw[<- r2.length];exact F.len _ _ _ _ h
 refine wpAny_call (_ct (F.run X.A X.stack s H ⟨us,[]⟩ (us++ds) (vs++dvs) Q E hr I.env0 (hb s us I.kIn hl) r2 h) λr s' hq=>?_);cases r with
 | error e=>exact hx pins O H s e s' I hq | ok fl=> cases fl with
  | ret u=>exact I.after hq | next=>exact False.elim hq | brk=>exact False.elim hq | cont=>exact False.elim hq
theorem zfe (F:z4y X.prog X.w X.K X.mg X.base CX k f fd ps sp) (hr:z0e k X.A) (hg:Gl X x) (hm:X.mg x=some (.ref f)) (hk:W.keepIn X.K (.ref f)=true) (hb:Binds X.K fd ps ds) (hd:yw dvs ds) (hx:Passes CX X E) (ha:PA X (e::es) t) (hdb:(x==("__debug__":Str))=false:=by decide) (he:starEach (e::es) X.env=(false,eval e X.env)::starEach es X.env:=by rfl) (hpl:(backTo pos (starEach es X.env)).any (·.1)=false:=by rfl): PE X (.Call (.Name x p) (e::es) [] pos) (zfa sp dvs E t):=by
 intro pins s O H Q I h;refine _ag (z0D I hg hm ?_ hdb);refine _dh (h₀:=X.base) I.ok.mod.kin hk (thn (ha pos pins s O H _ I h) λus s1 ⟨vs,H1,I1,r,q⟩=>⟨I1.kIn,?_⟩) he hpl;exact z8K F hr hb hd hx I1 r q
theorem zcb(F:z4y X.prog X.w X.K X.mg X.base CX k f fd ps sp)(hr:z0e k X.A)(hg:Gl X x)(hm:X.mg x=some (.ref f))(hk:W.keepIn X.K (.ref f)=true)(hb:Binds X.K fd ps ds)(hd:yw dvs ds)(hx:Passes CX X E) (hdb:(x==("__debug__":Str))=false:=by decide):PE X (.Call (.Name x p) [] [] pos) (zfa sp dvs E zl7):=by
 intro pins s O H Q I h;refine _ag (z0D I hg hm ?_ hdb);exact W.callWith_K0 I.kIn hk (z8K (us:=[]) F hr hb hd hx I .nil h)
end
structure zA(N P:List Str)(sc:Scope):Prop where
 kind:sc.kind=.function
 co:sc.isCoroutine=false
 gen:sc.isGenerator=false
 nd:N.Nodup
 pre:N.take P.length=P
 par:∀x∈P,sc.names.lookup x=some .local\/sc.names.lookup x=some .cell
 nofree:∀y∈sc.names,y.2≠.free
theorem z6a{kindOf:Str->Option NameKind}{x:Str}:∀{binds:List (Str×Value)}{m:Str->Option Value},(∀v,(x,v)∉binds)->bindL kindOf binds m x=m x
 | [],_,_=>rfl | (n,v)::r,m,h=>by
  unfold bindL;rw[z6a λw hw=>h w (_x _ hw)];split
  ·have:x≠n:=by rintro rfl;exact h v _N
   simp[this]
  ·rfl
theorem z6H{kindOf:Str->Option NameKind}{x:Str}:∀{binds:List (Str×Value)}{m:Str->Option Value},(∀v,(x,v)∉binds)->bindC kindOf binds m x=m x
 | [],_,_=>rfl | (n,v)::r,m,h=>by
  unfold bindC;rw[z6H λw hw=>h w (_x _ hw)];split;·rfl
  ·have:x≠n:=by rintro rfl;exact h v _N
   simp[this]
theorem z5G{kindOf:Str->Option NameKind}{x:Str}{v:Value}:∀{P:List Str}{vs:List Value}{i:Nat}{m:Str->Option Value},P.Nodup->P[i]? = some x->vs[i]? = some v->kindOf x=some .local-> bindL kindOf (P.zip vs) m x=some v
 | [],_,_,_,_,h,_,_=>by simp at h | _::_,[],_,_,_,_,h,_=>by simp at h | p::P,w::vs,0,m,nd,h1,h2,hk=>by
  simp at h1 h2;subst h1;subst h2;show bindL kindOf ((p,w)::P.zip vs) m p=_;unfold bindL;rw[z6a λv hv=>(_bI.mp nd).1 (_bJ hv).1,_e hk];simp | p::P,w::vs,i+1,m,nd,h1,h2,hk=>by
  show bindL kindOf ((p,w)::P.zip vs) m x=_;unfold bindL;exact z5G (i:=i) (_bI.mp nd).2 (by simpa using h1) (by simpa using h2) hk
theorem z6C{kindOf:Str->Option NameKind}{x:Str}{v:Value}:∀{P:List Str}{vs:List Value}{i:Nat}{m:Str->Option Value},P.Nodup->P[i]? = some x->vs[i]? = some v->kindOf x≠some .local-> bindC kindOf (P.zip vs) m x=some v
 | [],_,_,_,_,h,_,_=>by simp at h | _::_,[],_,_,_,_,h,_=>by simp at h | p::P,w::vs,0,m,nd,h1,h2,hk=>by
  simp at h1 h2;subst h1;subst h2;show bindC kindOf ((p,w)::P.zip vs) m p=_;unfold bindC;rw[z6H λv hv=>(_bI.mp nd).1 (_bJ hv).1,_j hk];simp | p::P,w::vs,i+1,m,nd,h1,h2,hk=>by
  show bindC kindOf ((p,w)::P.zip vs) m x=_;unfold bindC;exact z6C (i:=i) (_bI.mp nd).2 (by simpa using h1) (by simpa using h2) hk
def start(N:List Str)(vs:List V):St:=vs.map some++List.replicate (N.length-vs.length) none
def z2i(CX:CXT)(P:Program)(w:World)(K:W.Frag)(mg:Str->Option Value)(base:Heap)(N:List Str)(qual:Str)(scope:Scope)(f:Addr)(cd:Value)(A:Around)(outer:List Env)(s:Shared)(H:Hp)(E:XK):Cx where
 prog:=P;w:=w;K:=K;mg:=mg;base:=base;A:=A.deeper (envOfC qual scope s.heap.objs.size f cd);N:=N;s₀:=s;H₀:=H;env:=envOfC qual scope s.heap.objs.size f cd;outer:=outer;stack:=envOfC qual scope s.heap.objs.size f cd::outer;ex:=[];calm:=A.handled.isNone;fn:=λ_=>true;pn:=[];xe:=λe s'=>wpAny (model P w) (A.deeper (envOfC qual scope s.heap.objs.size f cd)) (leaving (envOfC qual scope s.heap.objs.size f cd) e) (λ_ s''=>CX outer H s E e s'') (λe' s''=>CX outer H s E e' s'') s'
theorem z1t{sc:Scope}{n:Nat}{x:Str}(h:sc.names.lookup x=some .cell):∃c,(cellsFrom n sc.names []).lookup x=some c:=by
 have q:=_cZ sc.names n [] (.inl h);exact _aA.mp q
theorem z62{CX:CXT}{P:Program}{w:World}{K:W.Frag}{mg:Str->Option Value}{base:Heap}{N ps:List Str}{qual:Str}{scope:Scope}{f:Addr}{cd:Value}{A:Around}{outer:List Env}{s s1:Shared}{H:Hp}{E:XK}{us:List Value}{vs:List V} (S:zA N ps scope)(e0:zhR P w K mg base A outer s H)(hl:vs.length=ps.length)(r:yw vs us) (x:InCallC s s.heap.objs.size (bindL (envOfC qual scope s.heap.objs.size f cd).kindOf (ps.zip us) λ_=>none) (cellsFrom (s.heap.objs.size+1) scope.names []) (bindC (envOfC qual scope s.heap.objs.size f cd).kindOf (ps.zip us) λ_=>none) s1): Inv (z2i CX P w K mg base N qual scope f cd A outer s H E) [] (start N vs) H s1:=by
 have hpl:ps.length<=N.length:=by have:=_a0 List.length S.pre;rw[_by]at this;omega
 obtain⟨h1,tk,rfl,hk⟩:=x.done;have noA:∀b:Addr,b∉(z2i CX P w K mg base N qual scope f cd A outer s H E).ex:=λb z=>absurd (show b∈([]:List Addr) from z) (by simp);refine⟨⟨e0.mod,S.kind,rfl,rfl,_h _,λy z c h1 h2=>?_,λy hy=>?_,λy c _ h=>?_,λh=>Option.isNone_iff_eq_none.mp h,Around.frames_deeper e0.frames,.inr ⟨rfl,rfl⟩,λb z=>absurd z (noA b),e0.bs,e0.bsz,λb _ _=>noA b,λb z=>absurd z (noA b),e0.funs,e0.frf⟩, rfl,e0.bare,Un.kept hk,⟨_,x.toInCall.ns,λi y v h1 h2 h3=>?_⟩,λy c h=>⟨_,x.cell y c h⟩,e0.hok.fresh (_h _),λy c h=>?_,λp hp=>absurd (show p∈([]:List (Addr×Obj)) from hp) (by simp),e0.hok.kept hk,?_⟩;·exact name_of_addr x.apart (_ac h1) (_ac h2)
 ·have hy:scope.names.lookup y=some .cell\/scope.names.lookup y=some .free:=hy;rcases hy with hy | hy;·exact z1t hy
  ·exact absurd rfl (S.nofree _ (_ac hy))
 ·exact _dg (x.above y c (_ac h))
 ·have hi:i<vs.length:=by
   unfold start at h2;by_cases hi:i<vs.length;·exact hi
   ·rw[_O (by simpa using hi)]at h2;rw[_a9]at h2;split at h2<;>cases h2
  have ha:vs[i]? = some v:=by
   unfold start at h2;rw[_o (by simpa using hi),_V]at h2;cases e:vs[i]? with
   | none=>rw[e]at h2;cases h2 | some a=>rw[e]at h2;cases h2;rfl
  obtain⟨u,hu,rv⟩:=r.get ha;have hp:ps[i]? = some y:=by rw[<- S.pre,_aO (by omega)];exact h1
  have ndP:ps.Nodup:=by rw[<- S.pre];exact S.nd.sublist (_cK _ _)
  refine⟨u,rv,?_⟩;rcases S.par y (_C hp) with k | k;·exact .inl ⟨k,z5G ndP hp hu k⟩
  ·obtain⟨c,e⟩:=z1t (n:=s.heap.objs.size+1) k;refine .inr ⟨.inl k,c,e,?_⟩;have q:=x.cell y c e;rw[z6C ndP hp hu (by show scope.names.lookup y≠_;rw[k];decide)]at q;exact q
 ·exact e0.hok.fresh (_dg (x.above y c (_ac h)))
 ·unfold start;show _=N.length;rw[_M,_I,_b2];omega
theorem zh1 {CX:CXT} {P:Program} {w:World} {K:W.Frag} {mg:Str->Option Value} {base:Heap} {k:Nat} {f:Addr} {name qual:Str} {params:Arguments} {body:List Stmt} {scope:Scope} {dV kV doc pm cdv ct oc:Value} {an od:Option Addr} {osl:Array (Option Value)} {N ps:List Str} {sp:Sp} (lk:K.lookup f=some ⟨oc,od,.func (W.fnOf name qual params body scope dV kV doc pm an cdv ct),osl⟩) (hcd:W.codeIn K cdv qual=true) (S:zA N ps scope) (len:∀vs H Q E,sp vs H Q E->vs.length=ps.length) (hbody:∀(A:Around) (outer:List Env) (s:Shared) (H:Hp) (vs:List V) (Q:VK) (E:XK),z0e k (A.deeper (envOfC qual scope s.heap.objs.size f cdv))->sp vs H Q E-> ∃t,PSs (z2i CX P w K mg base N qual scope f cdv A outer s H E) body t/\t {nx:=λ_ H'=>Q .non H',rt:=Q} (start N vs) H): z4y P w K mg base CX (k+1) f (W.fnOf name qual params body scope dV kV doc pm an cdv ct) ps sp:=by
 refine⟨len,λA outer s H args us vs Q E hr e0 hb r hsp=>?_⟩;have hl:=len _ _ _ _ hsp;have KX:K.In s.heap:=e0.mod.kin.keeps λb o e=>(e0.bs b o e).1;have lim:s.heap.NoLimit:=e0.mod.nolimit.keeps λb o e=>(e0.bs b o e).1;have hkind:∀y∈ps.zip us,scope.names.lookup y.1=some .local\/(scope.names.lookup y.1=some .cell/\((cellsFrom (s.heap.objs.size+1) scope.names []).lookup y.1).isSome=true):=λ⟨n,v⟩ hy=>by
  rcases S.par n (_bJ hy).1 with q | q;·exact .inl q
  ·exact .inr ⟨q,_cZ _ _ _ (.inl q)⟩
 refine codeAny_call_function hr.depth (KX _ _ lk) rfl S.co S.gen rfl (W.codeRec_of KX hcd) (hb _ _ _ _ ?_);refine wpAny_newFunctionEnv_cells S.kind hkind λenv he s1 x=>?_;subst he;refine⟨lim.keeps x.toInCall.keep,codeAny_func ?_⟩;obtain⟨t,ht,hq⟩:=hbody A outer s H vs Q E (hr.deeper _) hsp;have I:Inv (z2i CX P w K mg base N qual scope f cdv A outer s H E) [] (start N vs) H s1:=z62 S e0 hl r x;refine _r (ht [] s1 (start N vs) H _ I hq) (λfl s' hs=>?_) λe s' hs=>hs;have fin:∀{O':St} {H':Hp} {v:V} {u:Value},Inv (z2i CX P w K mg base N qual scope f cdv A outer s H E) [] O' H' s'->yr v u->Q v H'->CE outer P w H s Q u s':= λ{O' H' v u} J rv q=>⟨v,H',J.os,J.bare,J.base,J.hok,rv,q⟩;cases fl with
 | ret u=>
  obtain⟨v,O',H',J,rv,q⟩:=hs;exact fin J rv q | next=>
  obtain⟨O',H',J,q⟩:=hs;exact fin (v:=V.non) (u:=Value.none) J rfl q | brk=>
  obtain⟨_,_,_,q⟩:=hs;exact False.elim q | cont=>
  obtain⟨_,_,_,q⟩:=hs;exact False.elim q
section
variable {X:Cx}{x:Str}{p pos:Pos}{e:Expr}{es:List Expr}{t:TA}{id T:String}{r:List V->Hp->VK->Prop}
def tCB(r:List V->Hp->VK->Prop)(t:TA):TE:=λO H Q=>t O H λvs H1=>r vs H1 Q
theorem z1A (hc:xF X (.builtin id) r) (hg:Gl X x) (hm:X.mg x=none) (hv:bootBuiltins x=some (.builtin id)) (ha:PA X (e::es) t) (hn:x≠"__name__":=by decide) (hdb:(x==("__debug__":Str))=false:=by decide) (he:starEach (e::es) X.env=(false,eval e X.env)::starEach es X.env:=by rfl) (hpl:(backTo pos (starEach es X.env)).any (·.1)=false:=by rfl):PE X (.Call (.Name x p) (e::es) [] pos) (tCB r t):=by
 intro pins s O H Q I h;refine _ag (z0a I hg hm hv ?_ hn hdb);exact PyProof.Rows.callWith_builtin1 (thn (ha pos pins s O H _ I h) λus s1 ⟨vs,H1,I1,r1,q1⟩=>hc pins s1 O H1 vs us Q I1 r1 q1) he hpl
theorem zbx (hc:xF X (.type T) r) (hg:Gl X x) (hm:X.mg x=none) (hv:bootBuiltins x=some (.type T)) (ha:PA X (e::es) t) (hn:x≠"__name__":=by decide) (hdb:(x==("__debug__":Str))=false:=by decide) (he:starEach (e::es) X.env=(false,eval e X.env)::starEach es X.env:=by rfl) (hpl:(backTo pos (starEach es X.env)).any (·.1)=false:=by rfl):PE X (.Call (.Name x p) (e::es) [] pos) (tCB r t):=by
 intro pins s O H Q I h;refine _ag (z0a I hg hm hv ?_ hn hdb);exact _aa (thn (ha pos pins s O H _ I h) λus s1 ⟨vs,H1,I1,r1,q1⟩=>hc pins s1 O H1 vs us Q I1 r1 q1) he hpl
end
end L2
namespace HT
section
open PySem.SeqAt
open PySem.AutoSeq1 (wpAny_loadPart')
open PySem.MeetsSeq PySem.MeetsSeq2 PySem.MeetsSeq3
end
section
variable {prog:Program}{w:World}{A:Around}{E:Value->Shared->Prop}{s:Shared}
theorem zg0 {t b:Addr} {vs ws:List Value} {Q:Value->Shared->Prop} (ht:IsTup s.heap t vs.toArray) (hb:IsTup s.heap b ws.toArray) (hv:vs≠[]) (h1:ws=[]->Q (.ref t) s) (h2:ws≠[]->Q (.ref s.heap.objs.size) {s with heap:=s.heap.push {cls:=.type "tuple",data:=.seq (vs++ws).toArray}}) (hsz:vs.length+ws.length<=sizeLine):wpAny (model prog w) A (binaryOp .Add (.ref t) (.ref b)) Q E s:=by
 obtain⟨⟨cls,dd,data,sl⟩,ho,hc,n,hd⟩:=id ht;obtain⟨⟨cls2,dd2,data2,sl2⟩,ho2,hc2,n2,hd2⟩:=id hb;simp only at hc hd hc2 hd2;subst hc hd hc2 hd2;have e:vs.toArray++ws.toArray=(vs++ws).toArray:=by simp
 by_cases hw:ws=[]
 ·exact concat_meets ⟨_,ho,rfl⟩ ⟨_,ho2,rfl⟩ _c0 seq_tuple_add _bV _bQ (_bF _ _) (tuple_addW1 t b vs.toArray ws.toArray n n2 dd dd2 sl sl2 (by simpa using hv) (by simp[hw])) ⟨ho,ho2,h1 hw⟩
 ·refine concat_meets ⟨_,ho,rfl⟩ ⟨_,ho2,rfl⟩ _c0 seq_tuple_add _bV _bQ (_bF _ _) (tuple_addW2 t b vs.toArray ws.toArray n n2 dd dd2 sl sl2 (by simpa using hv) (by simpa using hw) (by rw[_k,_k];exact hsz)) ⟨ho,ho2,?_⟩;rw[e];exact h2 hw
def sIx(n d:Nat):Option Int->Nat
 | none=>d | some v=>if v<0 then (v+(n:Int)).toNat else min v.toNat n
theorem z86(n d:Nat):sIx n d none=d:=rfl
theorem zaU(n d k:Nat):sIx n d (some (k:Int))=min k n:=by
 show (if (k:Int)<0 then ((k:Int)+(n:Int)).toNat else min (k:Int).toNat n)=min k n;rw[_j (by omega),_bs]
theorem zi2(n d:Nat)(hd:d<=n)(o:Option Int):sIx n d o<=n:=by cases o with
 | none=>exact hd | some v=>
  show (if v<0 then (v+(n:Int)).toNat else min v.toNat n)<=n;by_cases hv:v<0;·rw[_e hv];omega
  ·rw[_j hv];exact Nat.min_le_right _ _
theorem zaf(v:Int)(n d:Nat):(if v<0 then max (v+(n:Int)) 0 else min v (n:Int))=((sIx n d (some v):Nat):Int):=by
 show (if v<0 then max (v+(n:Int)) 0 else min v (n:Int))=(((if v<0 then (v+(n:Int)).toNat else min v.toNat n):Nat):Int);by_cases hv:v<0;·simp only[_e hv];omega
 ·simp only[_j hv];omega
theorem z94(lo hi:Option Int)(n:Nat):Builtin.Slice.sliceAdjust lo hi 1 (n:Int)=(((sIx n 0 lo:Nat):Int),(sIx n n hi:Int)):=by
 have h1:¬ ((1:Int)<0):=by omega
 unfold Builtin.Slice.sliceAdjust;simp only[h1,_aB];refine Prod.ext ?_ ?_;·cases lo with
  | none=>rfl | some v=>exact zaf v n 0
 ·cases hi with
  | none=>rfl | some v=>exact zaf v n n
theorem z9o (i j:Nat):Builtin.Slice.slicePlaces (i:Int) (j:Int) 1=j-i:=by
 unfold Builtin.Slice.slicePlaces;have h1:(1:Int) > 0:=by omega
 simp only[h1,_G,Int.ediv_one];split<;>omega
theorem z40{v:Value}{o:Option Int}{Q:Option Int->Shared->Prop}(p:IsPart v o)(h:Q o s):wpAny (model prog w) A (Builtin.Slice.slicePartIndex v) Q E s:=by cases p with
 | none=>exact slicePart_none h | int i t=>exact slicePart_int h
theorem qF{sl:Addr}{vl vu:Value}{lo hi:Option Int}{n:Nat}{Q:Int×Int×Nat->Shared->Prop}(hs:s.heap.IsSliceOf sl vl vu .none)(pl:IsPart vl lo)(pu:IsPart vu hi) (h:Q (((sIx n 0 lo:Nat):Int),1,sIx n n hi-sIx n 0 lo) s):wpAny (model prog w) A (Builtin.Slice.sliceApplied (.ref sl) (pure (n:Int))) Q E s:=by
 obtain⟨os,hos,hcs,hds⟩:=id hs;unfold Builtin.Slice.sliceApplied Builtin.Slice.sliceFields;refine _a (_a (_W hos hds (x:=vl) rfl (_a (_W hos hds (x:=vu) rfl (_a (_W hos hds (x:=.none) rfl (_b ?_)))))));refine _a (slicePart_none ?_);show wpAny _ _ (if ((1:Int)==0)=true then _ else _) _ _ s;rw[_j (by decide)];refine _a (z40 pl (_a (z40 pu (_a (_b ?_)))));show wpAny _ _ (match Builtin.Slice.sliceAdjust lo hi 1 (n:Int) with | (lo,hi)=>pure (lo,(1:Int),Builtin.Slice.slicePlaces lo hi 1)) _ _ s;rw[z94 lo hi n];show wpAny _ _ (pure (((sIx n 0 lo:Nat):Int),(1:Int),Builtin.Slice.slicePlaces ((sIx n 0 lo:Nat):Int) (sIx n n hi:Int) 1)) _ _ s;rw[z9o];exact _b h
theorem zd8(xs:Array Value)(i k:Nat):((List.range k).filterMap λ(m:Nat)=>xs[((i:Int)+(m:Int)*1).toNat]?).toArray=((xs.toList.drop i).take k).toArray:=by
 have e:(λ(m:Nat)=>xs[((i:Int)+(m:Int)*1).toNat]?)=λm=>xs[i+m]? := by
  funext m;have:((i:Int)+(m:Int)*1).toNat=i+m:=by omega
  rw[this]
 rw[e];have:=pick_run xs i k;rw[List.filterMap_map]at this;have e2:((λx=>xs[x]?) ∘ λx=>i+x)=λm=>xs[i+m]? := rfl;rw[e2]at this;rw[this]
theorem z0q {t sl:Addr} {items:Array Value} {vl vu:Value} {lo hi:Option Int} {Q:Value->Shared->Prop} (ht:IsTup s.heap t items) (hs:s.heap.IsSliceOf sl vl vu .none) (pl:IsPart vl lo) (pu:IsPart vu hi) (hw:¬ (sIx items.size 0 lo=0/\sIx items.size items.size hi=items.size)) (h:Q (.ref s.heap.objs.size) {s with heap:=s.heap.push {cls:=.type "tuple",data:=.seq ((items.toList.drop (sIx items.size 0 lo)).take (sIx items.size items.size hi-sIx items.size 0 lo)).toArray}}) (hsz:items.size<=sizeLine):wpAny (model prog w) A (getItem (.ref t) (.ref sl)) Q E s:=by
 have htake:sizeOk (.seq ((items.toList.drop (sIx items.size 0 lo)).take (sIx items.size items.size hi-sIx items.size 0 lo)).toArray):=by
  show ((items.toList.drop (sIx items.size 0 lo)).take (sIx items.size items.size hi-sIx items.size 0 lo)).toArray.size<=sizeLine;rw[_k,_by,_c1,_a5];omega
 have hj:sIx items.size items.size hi<=items.size:=zi2 _ _ (_h _) hi;obtain⟨os,hos,hcs,hds⟩:=id hs;have hTs:s.TypeIs (.ref sl) "slice":=⟨os,hos,hcs⟩;unfold getItem;try with_reducible refine _aG ?_
 first | refine _a (_b ?_) | skip
 refine _a (wpAny_sequenceKey ht.typeIs (by decide) ?_);refine _a (_P (name:=Str.ofString "__getitem__") ht.typeIs _ab (_T _ab ht.typeIs entry_tuple_getitem ?_ (args_tuple_getitem _ _)));show wpAny _ _ (Builtin.Tuple.tupleItemsOf (.ref t) >>= _) _ _ s;refine _a (tupleItemsOf_ ht ?_);refine _a (wpAny_typeOf hTs ?_);rw[_e (by decide)];refine _a (qF hs pl pu ?_);have hno:¬ ((((sIx items.size 0 lo:Nat):Int)==0&&(1:Int)==1&&(sIx items.size items.size hi-sIx items.size 0 lo)==items.size)=true):=by
  intro q;rw[_z,_z]at q;have q1:((sIx items.size 0 lo:Nat):Int)=0:=eq_of_beq q.1.1;have q2:sIx items.size items.size hi-sIx items.size 0 lo=items.size:=eq_of_beq q.2;exact hw ⟨by omega,by omega⟩
 show wpAny _ _ (if (((sIx items.size 0 lo:Nat):Int)==0&&(1:Int)==1&&(sIx items.size items.size hi-sIx items.size 0 lo)==items.size)=true then _ else _) _ _ s;rw[_j hno,zd8];first
  | exact _a (m:=Builtin.Tuple.tupleExact _) (_U (_b ⟨_,rfl,_b h⟩) htake) | exact _a (m:=Builtin.Tuple.tupleExact _) (_U (_a (_b (_b ⟨_,rfl,_b h⟩))) htake) | exact _a (_a (m:=Builtin.Tuple.tupleExact _) (_U (_b (_b ⟨_,rfl,_b h⟩)) htake)) | exact _a (_a (m:=Builtin.Tuple.tupleExact _) (_U (_b ⟨_,rfl,_b h⟩) htake))
end
end HT
namespace L2
abbrev TO:=St->Hp->(Option Int->Hp->Prop)->Prop
def PO(X:Cx)(e:Option Expr)(t:TO):Prop:= ∀(pins:List (Addr×Obj))(s:Shared)(O:St)(H:Hp)(Q:Option Int->Hp->Prop),Inv X pins O H s->t O H Q-> wpAny (model X.prog X.w) X.A (evalPart e X.env) (λu s'=>∃o H',Inv X pins O H' s'/\IsPart u o/\Q o H') X.xe s
def zgq:TO:=λ_ H Q=>Q none H
def zk3(t:TE):TO:=λO H Q=>t O H λx H1=>∃i,x=.int i/\Q (some i) H1
section
variable {X:Cx}{e:Expr}{te:TE}{lo hi:Option Expr}{tl th:TO}{pos p2:Pos}
theorem zaN:PO X none zgq:=by
 intro pins s O H Q I h;rw[evalPart_none];exact _b ⟨none,H,I,.none,h⟩
theorem zfZ(h:PE X e te):PO X (some e) (zk3 te):=by
 intro pins s O H Q I hw;rw[evalPart_some];refine thn (h pins s O H _ I hw) λu s1 ⟨x,H1,I1,r1,q1⟩=>?_;obtain⟨i,rfl,q⟩:=q1;obtain⟨t,rfl⟩:=r1;exact⟨some i,H1,I1,.int i t,q⟩
def SlR(X:Cx)(r:V->Option Int->Option Int->Hp->VK->Prop):Prop:= ∀(pins:List (Addr×Obj))(s:Shared)(O:St)(H:Hp)(x:V)(v vl vu:Value)(lo hi:Option Int)(sl:Addr)(Q:VK),Inv X pins O H s->yr x v->s.heap.IsSliceOf sl vl vu .none->IsPart vl lo->IsPart vu hi->r x lo hi H Q-> ∃T id,typeLookup (.type T) "__getitem__"=pure (some (.builtin id))/\s.TypeIs v T/\wpAny (model X.prog X.w) X.A (getItem v (.ref sl)) (EP X pins O Q) X.xe s
theorem SlR.or{r r':V->Option Int->Option Int->Hp->VK->Prop}(h:SlR X r)(h':SlR X r'):SlR X (λx lo hi H Q=>r x lo hi H Q\/r' x lo hi H Q):=by
 intro pins s O H x v vl vu lo hi sl Q I rx hs pl pu q;rcases q with q | q;·exact h pins s O H x v vl vu lo hi sl Q I rx hs pl pu q
 ·exact h' pins s O H x v vl vu lo hi sl Q I rx hs pl pu q
def tSl(r:V->Option Int->Option Int->Hp->VK->Prop)(te:TE)(tl th:TO):TE:=λO H Q=>te O H λx H1=>tl O H1 λl H2=>th O H2 λu H3=>r x l u H3 Q
theorem z8k{r:V->Option Int->Option Int->Hp->VK->Prop}(hr:SlR X r)(he:PE X e te)(hl:PO X lo tl)(hu:PO X hi th):PE X (.Subscript e (.Slice lo hi none p2) pos) (tSl r te tl th):=by
 intro pins s O H Q I h;refine Subscript_ (thn (he pins s O H _ I h) λv s1 ⟨x,H1,I1,r1,q1⟩=>?_);refine wpAny_Slice (thn (hl pins s1 O H1 _ I1 q1) λvl s2 ⟨l,H2,I2,pl,q2⟩=>thn (hu pins s2 O H2 _ I2 q2) λvu s3 ⟨u,H3,I3,pu,q3⟩=>?_);rw[evalPart_none];refine _b ?_;have I4:Inv X pins O H3 {s3 with heap:=s3.heap.push {cls:=.type "slice",data:=.fields #[vl,vu,.none]}}:=I3.kept (t':=s3.toks) λb ob q=>_d _ q;obtain⟨T,id,hT,ht,hg⟩:=hr pins {s3 with heap:=s3.heap.push {cls:=.type "slice",data:=.fields #[vl,vu,.none]}} O H3 x v vl vu l u s3.heap.objs.size Q I4 r1 (Heap.IsSliceOf.new ..) pl pu q3;show wpAny (model X.prog X.w) X.A (subscriptTail e (.Slice lo hi none p2) v (.ref s3.heap.objs.size)) (EP X pins O Q) X.xe {s3 with heap:=s3.heap.push {cls:=.type "slice",data:=.fields #[vl,vu,.none]}};exact tail_any (ops:=[.ref s3.heap.objs.size,v]) ht hT hg (by with_unfolding_all rfl)
def ze5(xs:List V)(lo hi:Option Int):List V:=(xs.drop (HT.sIx xs.length 0 lo)).take (HT.sIx xs.length xs.length hi-HT.sIx xs.length 0 lo)
theorem z1L(xs:List V)(lo hi:Option Int):(ze5 xs lo hi).length<=xs.length:=by
 unfold ze5;rw[_by,_c1];omega
def zlT(K:W.Frag):V->Option Int->Option Int->Hp->VK->Prop:=λx lo hi H Q=>∃a xs,x=.ref a/\SqT K H a xs/\ ¬ (HT.sIx xs.length 0 lo=0/\HT.sIx xs.length xs.length hi=xs.length)/\∀p,H p=none->Q (.ref p) (upd H p (.tup (ze5 xs lo hi)))
theorem zhU:SlR X (zlT X.K):=by
 intro pins s O H x v vl vu lo hi sl Q I rx hs pl pu h;obtain⟨a,xs,rfl,hx,hw,q⟩:=h;cases rx;obtain⟨its,r,ht,hz⟩:=I.tuple hx;have hlen:its.toArray.size=xs.length:=by rw[_k];exact r.length.symm
 refine⟨"tuple",_,_ab.lookup,ht.typeIs,?_⟩;refine HT.z0q ht hs pl pu (by rw[hlen];exact hw) ?_ (by rw[hlen];exact hz);rw[hlen];refine⟨.ref s.heap.objs.size,_,I.laid (t':=s.toks) (o:=.tup (ze5 xs lo hi)) (λb ob q=>_d _ q) (_h _) ?_,rfl,q _ (I.hok.fresh (_h _))⟩;exact⟨_S (z1L xs lo hi) hz,_,(r.drop (HT.sIx xs.length 0 lo)).take (HT.sIx xs.length xs.length hi-HT.sIx xs.length 0 lo),za3.new _ _⟩
def zk5(K:W.Frag):R2:=λx y H Q=>∃a b xs ys,x=.ref a/\y=.ref b/\SqT K H a xs/\SqT K H b ys/\xs≠[]/\xs.length+ys.length<=sizeLine/\ (ys=[]->Q (.ref a) H)/\(ys≠[]->∀p,H p=none->Q (.ref p) (upd H p (.tup (xs++ys))))
theorem yw.nil_iff{xs:List V}{us:List Value}(r:yw xs us):us=[] ↔ xs=[]:=by cases r with
 | nil=>simp | cons _ _=>simp
theorem zfn:OpR X (binaryOp .Add) (zk5 X.K):=by
 intro pins s O H x y v u Q I rx ry h;obtain⟨a,b,xs,ys,rfl,rfl,ha,hb,hx,hz,q1,q2⟩:=h;cases rx;cases ry;obtain⟨its,r1,p1,_⟩:=I.tuple ha;obtain⟨its2,r2,p2,_⟩:=I.tuple hb;refine HT.zg0 p1 p2 (λz=>hx (r1.nil_iff.mp z)) (λz=>⟨.ref a,H,I,rfl,q1 (r2.nil_iff.mp z)⟩) (λz=>?_) (by rw[<- r1.length,<- r2.length];exact hz);refine⟨.ref s.heap.objs.size,_,I.laid (t':=s.toks) (o:=.tup (xs++ys)) (λb ob q=>_d _ q) (_h _) ?_,rfl,q2 (λw=>z (r2.nil_iff.mpr w)) _ (I.hok.fresh (_h _))⟩;exact⟨by rw[_M];exact hz,_,r1.append r2,za3.new _ _⟩
end
def ixN(n:Nat)(i:Int):Option Nat:=if 0<=i then (if i<n then some i.toNat else none) else if -(n:Int)<=i then some (i+n).toNat else none
def atI{α:Type}(xs:List α)(i:Int):Option α:=(ixN xs.length i).bind λj=>xs[j]?
theorem zax{n:Nat}{i:Int}{j:Nat}(h:ixN n i=some j):seqIndex? i n=some j/\j<n/\-(n:Int)<=i/\i<n:=by
 unfold ixN at h;by_cases h0:0<=i
 ·rw[_e h0]at h;by_cases h1:i<n
  ·rw[_e h1]at h;have e:i.toNat=j:=_K h;exact⟨by rw[seqIndex_of h0 h1,e],by omega,by omega,h1⟩
  ·rw[_j h1]at h;cases h
 ·rw[_j h0]at h;by_cases h1:-(n:Int)<=i
  ·rw[_e h1]at h;have e:(i+n).toNat=j:=_K h;exact⟨by rw[seqIndex_neg (by omega) h1,e],by omega,h1,by omega⟩
  ·rw[_j h1]at h;cases h
theorem zam{α:Type}{xs:List α}{i:Int}{v:α}(h:atI xs i=some v):∃j,seqIndex? i xs.length=some j/\xs[j]? = some v/\j<xs.length/\-(xs.length:Int)<=i/\i<xs.length:=by
 unfold atI at h;cases e:ixN xs.length i with
 | none=>rw[e]at h;cases h | some j=>
  rw[e]at h;obtain⟨h1,h2,h3,h4⟩:=zax e;exact⟨j,h1,h,h2,h3,h4⟩
def z7g(b:Expr):Prop:=∀o i,subscripted b false o i=operate [o,i] (getItem o i)
def IxR(X:Cx)(r:R2):Prop:= ∀(value slice:Expr)(pins:List (Addr×Obj))(s:Shared)(O:St)(H:Hp)(x y:V)(v u:Value)(Q:VK),Inv X pins O H s->yr x v->yr y u->r x y H Q-> subscripted slice false v u=operate [v,u] (getItem v u)->wpAny (model X.prog X.w) X.A (subscriptTail value slice v u) (EP X pins O Q) X.xe s
def MtR (X:Cx) (id:String) (r:V->List V->Hp->VK->Prop):Prop:= ∀(pins:List (Addr×Obj)) (s:Shared) (O:St) (H:Hp) (x:V) (xs:List V) (v:Value) (us:List Value) (Q:VK),Inv X pins O H s->yr x v->yw xs us->r x xs H Q-> wpAny (model X.prog X.w) X.A (call (.builtin id) (v::us)) (EP X pins O Q) X.xe s
section
variable {X:Cx}{a b:Expr}{ta tb:TE}{pos:Pos}
theorem IxR.or{r r':R2}(h:IxR X r)(h':IxR X r'):IxR X (λx y H Q=>r x y H Q\/r' x y H Q):=by
 intro value slice pins s O H x y v u Q I rx ry q hs;rcases q with q | q;·exact h value slice pins s O H x y v u Q I rx ry q hs
 ·exact h' value slice pins s O H x y v u Q I rx ry q hs
theorem zi1{r:R2}(hr:IxR X r)(ha:PE X a ta)(hb:PE X b tb)(hs:z7g b):PE X (.Subscript a b pos) (tOp r ta tb):=by
 intro pins s O H Q I h;exact Subscript_ (zkW ha hb I h λv u s2 x y H2 I2 rx ry q=>hr a b pins s2 O H2 x y v u Q I2 rx ry q (hs _ _))
def zlQ(K:W.Frag):R2:=λx y H Q=>∃p xs i v,x=.ref p/\y=.int i/\SqL K H p xs/\atI xs i=some v/\Q v H
def zlt(K:W.Frag):R2:=λx y H Q=>∃p xs i v,x=.ref p/\y=.int i/\SqT K H p xs/\atI xs i=some v/\Q v H
theorem zfx:IxR X (zlQ X.K):=by
 intro value slice pins s O H x y v u Q I rx ry h hs;obtain⟨p,xs,i,z,rfl,rfl,hq,he,q⟩:=h;cases rx;obtain⟨t,rfl⟩:=ry;obtain⟨its,r,pl,hz⟩:=I.list hq;obtain⟨j,h1,h2,h3,h4,h5⟩:=zam he;obtain⟨w,ew,rw'⟩:=r.get h2;have hl:=r.length;have hn:=z5T;have fin:EP X pins O Q w s:=⟨z,H,I,rw',q⟩;by_cases h0:0<=i
 ·have hj:i.toNat=j:=by
   rw[seqIndex_of h0 h5]at h1;exact _K h1
  exact item_listR pl.isList h0 (by omega) (by rw[hj];simpa using ew) fin hs
 ·have hj:(i+(its.toArray.size:Int)).toNat=j:=by
   rw[seqIndex_neg (by omega) h4]at h1;rw[_k,<- hl];exact _K h1
  exact _bW (x:=w) pl.isList.typeIs _cL.lookup (wpAny_getItem_list_neg (Q:=λr s'=>r=w/\EP X pins O Q r s') pl.isList (by omega) (by rw[_k]<;>omega) (by omega) (by rw[hj];simpa using ew) ⟨rfl,fin⟩) hs
theorem zin:IxR X (zlt X.K):=by
 intro value slice pins s O H x y v u Q I rx ry h hs;obtain⟨p,xs,i,z,rfl,rfl,hq,he,q⟩:=h;cases rx;obtain⟨t,rfl⟩:=ry;obtain⟨its,r,pl,hz⟩:=I.tuple hq;obtain⟨j,h1,h2,h3,h4,h5⟩:=zam he;obtain⟨w,ew,rw'⟩:=r.get h2;have hl:=r.length;have hn:=z5T;have fin:EP X pins O Q w s:=⟨z,H,I,rw',q⟩;exact _bW (x:=w) pl.typeIs slot_tuple_getitem.lookup (getItem_tuple (j:=j) (Q:=λr s'=>r=w/\EP X pins O Q r s') pl (by omega) (by omega) (by rw[_k,<- hl];exact h1) (by simpa using ew) ⟨rfl,fin⟩) hs
theorem z90 (its:List Value) (n j:Nat) (u:Value):Obj.mapSeq (·.setIfInBounds j u) {cls:=.type "list",data:=.seq its.toArray n}={cls:=.type "list",data:=.seq (its.set j u).toArray n}:=by simp[Obj.mapSeq]
theorem Inv.lst{pins:List (Addr×Obj)}{O:St}{H:Hp}{s:Shared}{p:Addr}{xs:List V}(I:Inv X pins O H s)(h:H p=some (.lst xs)): ∃(its:List Value)(n:Nat),yw xs its/\s.heap.get? p=some {cls:=.type "list",data:=.seq its.toArray n}/\xs.length<=sizeLine:=by
 obtain⟨z,its,n,r,e⟩:=I.hok p _ h;exact⟨its,n,r,e,z⟩
theorem Inv.lstUpd {pins:List (Addr×Obj)} {O:St} {H:Hp} {s:Shared} {p:Addr} {xs ys:List V} {its its':List Value} {n n':Nat} {f:Obj->Obj} (I:Inv X pins O H s) (h:H p=some (.lst xs)) (ho:s.heap.get? p=some {cls:=.type "list",data:=.seq its.toArray n}) (hf:f {cls:=.type "list",data:=.seq its.toArray n}={cls:=.type "list",data:=.seq its'.toArray n'}) (r:yw ys its') (hz:ys.length<=sizeLine) (t:Nat): Inv X pins O (upd H p (.lst ys)) {s with heap:=s.heap.update p f,toks:=t}:=by
 have e:(s.heap.update p f).get? p=some {cls:=.type "list",data:=.seq its'.toArray n'}:=by rw[_aV f ho (by rw[hf]<;>rfl),hf]
 refine I.write (x:=p) (e:=p) (by rw[h];trivial) (.inl rfl) (λb u hb q=>(_ah _ _ (_aM hb)).trans q) ⟨_,e⟩ ?_;exact⟨hz,its',n',r,e⟩
def zjR:V->V->V->Hp->(Hp->Prop)->Prop:=λo i v H Q=>∃p xs k j,o=.ref p/\i=.int k/\H p=some (.lst xs)/\ixN xs.length k=some j/\Q (upd H p (.lst (xs.set j v)))
theorem set_list:zlk X zjR:=by
 intro pins s O H o i v ov iv u Q I ro ri rv h;obtain⟨p,xs,k,j,rfl,rfl,hp,hj,q⟩:=h;cases ro;obtain⟨t,rfl⟩:=ri;obtain⟨its,n,r,ho,hz⟩:=I.lst hp;obtain⟨h1,h2,h3,h4⟩:=zax hj;have hl:=r.length;have hn:=z5T;have I':Inv X pins O (upd H p (.lst (xs.set j v))) {s with heap:=s.heap.update p (Obj.mapSeq (·.setIfInBounds j u))}:= I.lstUpd hp ho (z90 its n j u) (r.set rv j) (by rw[_bK];exact hz) s.toks;by_cases h0:0<=k
 ·have hk:k.toNat=j:=by
   rw[seqIndex_of h0 h4]at h1;exact _K h1
  exact W.ki_setAt ho h0 (by omega) (by rw[_k,<- hl];exact h4) (by rw[hk];exact⟨_,I',q⟩)
 ·have hk:(k+(its.toArray.size:Int)).toNat=j:=by
   rw[seqIndex_neg (by omega) h3]at h1;rw[_k,<- hl];exact _K h1
  exact W.ki_setBack ho (by omega) (by rw[_k,<- hl];exact h3) (by omega) (by rw[hk];exact⟨_,I',q⟩)
theorem z6f(lo hi:Option Int)(n:Nat):(sliceBounds lo hi none n).1=((HT.sIx n 0 lo:Nat):Int)/\(sliceBounds lo hi none n).2.1=(HT.sIx n n hi:Int)/\(sliceBounds lo hi none n).2.2=1:=by
 refine⟨?_,?_,rfl⟩;·cases lo with
  | none=>simp[sliceBounds,HT.sIx] | some i=>
   simp only[sliceBounds,HT.sIx,Option.getD_none,show (1:Int) > 0 by decide,_G];by_cases h:i<0;·simp only[h,_G]<;>omega
   ·simp only[h,_aB]<;>omega
 ·cases hi with
  | none=>simp[sliceBounds,HT.sIx] | some i=>
   simp only[sliceBounds,HT.sIx,Option.getD_none,show (1:Int) > 0 by decide,_G];by_cases h:i<0;·simp only[h,_G]<;>omega
   ·simp only[h,_aB]<;>omega
theorem z4i(its:List Value)(lo hi:Option Int):slicePick its.toArray lo hi none=((its.drop (HT.sIx its.length 0 lo)).take (HT.sIx its.length its.length hi-HT.sIx its.length 0 lo)).toArray:=by
 obtain⟨h1,h2,h3⟩:=z6f lo hi its.toArray.size;unfold slicePick;rw[h1,h2,h3];simp only[sliceRange_one,pick_run,_k]<;>rfl
def zlF(K:W.Frag):V->Option Int->Option Int->Hp->VK->Prop:=λx lo hi H Q=>∃a xs,x=.ref a/\SqL K H a xs/\∀p,H p=none->Q (.ref p) (upd H p (.lst (ze5 xs lo hi)))
theorem zeT:SlR X (zlF X.K):=by
 intro pins s O H x v vl vu lo hi sl Q I rx hs pl pu h;obtain⟨a,xs,rfl,hx,q⟩:=h;cases rx;obtain⟨its,r,ht,hz⟩:=I.list hx;have hlen:=r.length;refine⟨"list",_,_cL.lookup,ht.isList.typeIs,?_⟩;refine wpAny_getItem_list_slice ht.isList hs pl pu .none (by simp) ?_ (by rw[_k]<;>omega);rw[z4i,<- hlen];refine⟨.ref s.heap.objs.size,_,I.laid (t':=s.toks) (o:=.lst (ze5 xs lo hi)) (λb ob q=>_d _ q) (_h _) ?_,rfl,q _ (I.hok.fresh (_h _))⟩;exact⟨_S (z1L xs lo hi) hz,_,0,(r.drop (HT.sIx xs.length 0 lo)).take (HT.sIx xs.length xs.length hi-HT.sIx xs.length 0 lo),_n _ rfl⟩
def z3r:V->Bool
 | .non=>true | .bl _=>true | .int _=>true | .str _=>true | _=>false
noncomputable def eqV:V->V->Bool
 | .non,.non=>true | .bl a,.bl b=>a==b | .bl a,.int b=>(if a then 1 else 0)==b | .int a,.bl b=>a==(if b then 1 else 0) | .int a,.int b=>a==b | .str a,.str b=>a==b | _,_=>false
theorem zhZ{A:Around}{s:Shared}{y x:V}{u v:Value}(ry:yr y u)(rx:yr x v)(fy:z3r y=true)(fx:z3r x=true):SeqAt.EqAt A s u v (eqV y x):=by cases y with
 | non=>
  cases ry;cases x with
  | non=>cases rx;exact SeqAt.EqAt.same _ | bl b=>cases rx;exact SeqAt.EqAt.none_bool b | int b=>obtain⟨t,rfl⟩:=rx;exact SeqAt.EqAt.none_int b t | str b=>obtain⟨t,rfl⟩:=rx;exact SeqAt.EqAt.none_str b t | _=>exact absurd (show false=true from fx) _R
 | bl a=>
  cases ry;cases x with
  | non=>cases rx;exact SeqAt.EqAt.bool_none a | bl b=>cases rx;exact SeqAt.EqAt.bool_bool a b | int b=>obtain⟨t,rfl⟩:=rx;exact SeqAt.EqAt.bool_int a b t | str b=>obtain⟨t,rfl⟩:=rx;exact SeqAt.EqAt.bool_str a b t | _=>exact absurd (show false=true from fx) _R
 | int a=>
  obtain⟨t',rfl⟩:=ry;cases x with
  | non=>cases rx;exact SeqAt.EqAt.int_none a t' | bl b=>cases rx;exact SeqAt.EqAt.int_bool a t' b | int b=>obtain⟨t,rfl⟩:=rx;exact SeqAt.EqAt.int_int a t' b t | str b=>obtain⟨t,rfl⟩:=rx;exact SeqAt.EqAt.int_str a t' b t | _=>exact absurd (show false=true from fx) _R
 | str a=>
  obtain⟨t',rfl⟩:=ry;cases x with
  | non=>cases rx;exact SeqAt.EqAt.str_none a t' | bl b=>cases rx;exact SeqAt.EqAt.str_bool a t' b | int b=>obtain⟨t,rfl⟩:=rx;exact SeqAt.EqAt.str_int a t' b t | str b=>obtain⟨t,rfl⟩:=rx;exact SeqAt.EqAt.str_str a t' b t | _=>exact absurd (show false=true from fx) _R
 | _=>exact absurd (show false=true from fy) _R
noncomputable def eqU(x:V)(u:Value):Bool:=match u with
 | .none=>eqV .non x | .bool b=>eqV (.bl b) x | .int i _=>eqV (.int i) x | .str z _=>eqV (.str z) x | _=>false
theorem ze9{x y:V}{u:Value}(r:yr y u)(f:z3r y=true):eqU x u=eqV y x:=by cases y with
 | non=>cases r;rfl | bl b=>cases r;rfl | int i=>obtain⟨t,rfl⟩:=r;rfl | str z=>obtain⟨t,rfl⟩:=r;rfl | _=>exact absurd (show false=true from f) _R
theorem z7f{x:V}:∀{xs:List V}{us:List Value},yw xs us->xs.all z3r=true->us.any (eqU x)=xs.any λy=>eqV y x
 | _,_,.nil,_=>rfl | y::xs,u::us,.cons r t,f=>by
  rw[_ce,_z]at f;rw[_bG,_bG,ze9 r f.1,z7f t f.2]
theorem z4j{A:Around}{s:Shared}{x:V}{v:Value}(rx:yr x v)(fx:z3r x=true):∀{xs:List V}{us:List Value},yw xs us->xs.all z3r=true->∀u∈us,SeqAt.EqAt A s u v (eqU x u)
 | _,_,.nil,_=>λu hu=>by cases hu | y::xs,u::us,.cons r t,f=>λu' hu=>by
  rw[_ce,_z]at f;rcases _q.mp hu with rfl | hu;·rw[ze9 r f.1];exact zhZ r rx f.1 fx
  ·exact z4j rx fx t f.2 u' hu
noncomputable def inV(x:V)(xs:List V):Bool:=xs.any λy=>eqV y x
def rIn(K:W.Frag)(neg:Bool):R2:=λx y H Q=>∃p xs,y=.ref p/\(SqL K H p xs\/SqT K H p xs)/\z3r x=true/\xs.all z3r=true/\Q (.bl (if neg then !inV x xs else inV x xs)) H
theorem zbF:OpR X (compareOp .In) (rIn X.K false):=by
 intro pins s O H x y v u Q I rx ry h;obtain⟨p,xs,rfl,hq,fx,fs,q⟩:=h;cases ry;rcases hq with hq | hq
 ·obtain⟨its,r,pl,hz⟩:=I.list hq;refine SeqAt.in_listAt (eqU x) pl.isList (λw hw=>z4j rx fx r fs w (by simpa using hw)) ⟨.bl _,H,I,rfl,?_⟩;rw[show its.toArray.any (eqU x)=its.any (eqU x) by simp,z7f r fs];exact q
 ·obtain⟨its,r,pl,hz⟩:=I.tuple hq;refine SeqAt.in_tupleAt (eqU x) pl (λw hw=>z4j rx fx r fs w (by simpa using hw)) ⟨.bl _,H,I,rfl,?_⟩;rw[show its.toArray.any (eqU x)=its.any (eqU x) by simp,z7f r fs];exact q
theorem z5P:xF X (.builtin "len") (λxs H Q=>∃p ys,xs=[.ref p]/\(SqL X.K H p ys\/SqT X.K H p ys)/\Q (.int ys.length) H):=by
 intro pins s O H xs us Q I r h;obtain⟨p,ys,rfl,hq,q⟩:=h;obtain⟨u,rfl,rx⟩:=vals1 r;cases rx;have hn:=z5T;rcases hq with hq | hq
 ·obtain⟨its,r',pl,hz⟩:=I.list hq;have hlen:=r'.length;exact Calls.call_len_list pl.isList (by simp only[_k]<;>omega) ⟨.int ys.length,H,I.tok _,⟨s.toks+1,by rw[_k,hlen]⟩,q⟩
 ·obtain⟨its,r',pl,hz⟩:=I.tuple hq;have hlen:=r'.length;exact len_tuple pl (by simp only[_k]<;>omega) ⟨.int ys.length,H,I.tok _,⟨s.toks+1,by rw[_k,hlen]⟩,q⟩
theorem z6G:xF X (.type "list") (λxs H Q=>∃p ys,xs=[.ref p]/\(SqL X.K H p ys\/SqT X.K H p ys)/\∀l,H l=none->Q (.ref l) (upd H l (.lst ys))):=by
 intro pins s O H xs us Q I r h;obtain⟨p,ys,rfl,hq,q⟩:=h;obtain⟨u,rfl,rx⟩:=vals1 r;cases rx;have fin:∀(its:List Value),yw ys its->ys.length<=sizeLine->∀(h':Heap) (c':Nat),(∀b o',s.heap.get? b=some o'->h'.get? b=some o')-> h'.get? s.heap.objs.size=some {cls:=.type "list",dict:=none,data:=.seq its.toArray c',slots:=#[]}->EP X pins O Q (.ref s.heap.objs.size) {s with heap:=h'}:=λits r' hz h' c' kp e=> ⟨.ref s.heap.objs.size,_,I.laid (t':=s.toks) kp (_h _) (show yM X.prog X.w _ h' _ (.lst ys) from⟨hz,its,c',r',e⟩),rfl,q _ (I.hok.fresh (_h _))⟩;rcases hq with hq | hq
 ·obtain⟨its,r',pl,hz⟩:=I.list hq;have hlen:=r'.length;obtain⟨o,ho,hc,n,hd⟩:=pl.isList;exact call_list_seq p (.inl rfl) ho hc hd (λh' c' kp e=>fin its r' hz h' c' kp e) (by simp only[_k]<;>omega)
 ·obtain⟨its,r',pl,hz⟩:=I.tuple hq;have hlen:=r'.length;obtain⟨o,ho,hc,n,hd⟩:=pl;exact call_list_seq p (.inr rfl) ho hc hd (λh' c' kp e=>fin its r' hz h' c' kp e) (by simp only[_k]<;>omega)
theorem z54:xF X (.type "tuple") (λxs H Q=>∃p ys,xs=[.ref p]/\((SqL X.K H p ys/\∀l,H l=none->Q (.ref l) (upd H l (.tup ys)))\/(SqT X.K H p ys/\Q (.ref p) H))):=by
 intro pins s O H xs us Q I r h;obtain⟨p,ys,rfl,h⟩:=h;obtain⟨u,rfl,rx⟩:=vals1 r;cases rx;rcases h with⟨hq,q⟩ | ⟨hq,q⟩
 ·obtain⟨its,r',pl,hz⟩:=I.list hq;have hlen:=r'.length;refine call_tuple_list pl.isList (λh' kp=>?_) (by simp only[_k]<;>omega);have I1:Inv X pins O H {s with heap:=h'}:=I.kept (t':=s.toks) kp;have I2:Inv X pins O (upd H h'.objs.size (.tup ys)) {s with heap:=h'.push {cls:=.type "tuple",data:=.seq its.toArray}}:= I1.laid (t':=s.toks) (λb o e=>_d _ e) (_h _) (show yM X.prog X.w _ _ _ (.tup ys) from⟨hz,its,r',za3.new _ _⟩);exact⟨.ref h'.objs.size,_,I2,rfl,q _ (I1.hok.fresh (_h _))⟩
 ·obtain⟨its,r',pl,hz⟩:=I.tuple hq;exact call_tuple_same pl ⟨.ref p,H,I,rfl,q⟩
def tyV(K:W.Frag)(T:String)(x:V)(H:Hp):Prop:=match x with
 | .str _=>T="str" | .int _=>T="int" | .ref p=>(T="list"/\∃xs,SqL K H p xs)\/(T="tuple"/\∃o,K.lookup p=some o/\o.cls=.type "tuple"/\o.dict=none)\/ (T="dict"/\((∃kvs,H p=some (.dK kvs))\/∃kvs,H p=some (.dT kvs)))\/(T="set"/\∃S n,H p=some (.set S n)) | _=>False
theorem zhI{pins:List (Addr×Obj)}{O:St}{H:Hp}{s:Shared}{T:String}{x:V}{v:Value}(I:Inv X pins O H s)(r:yr x v)(ty:tyV X.K T x H): s.TypeIs v T/\∀a,v=.ref a->∃ob,s.heap.get? a=some ob/\ob.dict=none:=by cases x with
 | str z=>
  obtain⟨t,rfl⟩:=r;cases (show T="str" from ty);exact⟨typeIs_str s z t,λ_ e=>nomatch e⟩ | int i=>
  obtain⟨t,rfl⟩:=r;cases (show T="int" from ty);exact⟨_b9 s i t,λ_ e=>nomatch e⟩ | ref p=>
  cases r;rcases ty with⟨rfl,xs,hq⟩ | ⟨rfl,o,hk,hc,hd⟩ | ⟨rfl,hk⟩ | ⟨rfl,S,n,hk⟩
  ·obtain⟨its,_,pl,_⟩:=I.list hq;refine⟨pl.isList.typeIs,λa e=>?_⟩;cases e;obtain⟨o,n,e,c,hd,_⟩:=pl;exact⟨o,e,hd⟩
  ·refine⟨⟨o,I.kIn p o hk,hc⟩,λa e=>?_⟩;cases e;exact⟨o,I.kIn _ o hk,hd⟩
  ·have z:∃o,s.heap.get? p=some o/\o.ExactDict:=by
    rcases hk with⟨kvs,hk⟩ | ⟨kvs,hk⟩
    ·obtain⟨_,_,_,_,o,_,_,e,ex,_⟩:=I.hok p _ hk;exact⟨o,e,ex⟩
    ·obtain⟨_,_,_,_,o,_,_,e,ex,_⟩:=I.hok p _ hk;exact⟨o,e,ex⟩
   obtain⟨o,e,ex⟩:=z;refine⟨⟨o,e,ex.1⟩,λa e2=>?_⟩;cases e2;exact⟨o,e,ex.2.1⟩
  ·obtain⟨o,_,_,_,e,ex,_⟩:=I.hok p _ hk;refine⟨⟨o,e,ex.1⟩,λa e2=>?_⟩;cases e2;exact⟨o,e,ex.2.1⟩ | _=>exact False.elim ty
def tBM(K:W.Frag)(T:String)(r:V->List V->Hp->VK->Prop)(to:TE)(t:TA):TE:=λO H Q=>to O H λx H1=>tyV K T x H1/\t O H1 λxs H2=>r x xs H2 Q
variable {o e:Expr}{es:List Expr}{to:TE}{t:TA}{name:Str}{apos cpos:Pos}{T id:String}{r:V->List V->Hp->VK->Prop}
theorem zgp (pa:PlainAttrs T) (slot:Slot T name id) (hty:typeOf (.builtin id)=pure (.type "method_descriptor")) (hm:MtR X id r) (ho:PE X o to) (ha:PA X (e::es) t) (hbase:attributeBase o name X.env (eval o X.env)=eval o X.env:=by rfl) (hfew:((backTo cpos (starEach (e::es) X.env)).all (λx=>!x.1)&&(backToKw cpos (keywordEach [] X.env)).all (λx=>x.1.isSome) && decide ((e::es).length+([]:List Keyword).length+(if ([]:List Keyword).isEmpty then 0 else 1)<30))=true:=by rfl) (hline:(apos.endLine==cpos.line)=true:=by rfl) (hs:starEach (e::es) X.env=(false,eval e X.env)::starEach es X.env:=by rfl) (hplain:(backTo cpos (starEach es X.env)).any (·.1)=false:=by rfl): PE X (.Call (.Attribute o name apos) (e::es) [] cpos) (tBM X.K T r to t):=by
 intro pins s O H Q I h;refine wpAny_Call_method_late hbase hfew hline rfl (thn (ho pins s O H _ I h) λv s1 ⟨x,H1,I1,r1,ty,q1⟩=>?_);obtain⟨h1,h2⟩:=zhI I1 r1 ty;refine⟨T,id,pa,slot,hty,h1,h2,?_⟩;have hA:=ha cpos pins s1 O H1 _ I1 q1;rw[hs]at hA ⊢;refine _bX (by show (false||(backTo cpos (starEach es X.env)).any (·.1))=false;rw[hplain]<;>rfl) (_bu ?_);exact thn hA λus s2 ⟨vs,H2,I2,r2,q2⟩=>hm pins s2 O H2 x vs v us Q I2 r1 r2 q2
end
def MtM (X:Cx) (id:String) (r:V->List V->Hp->VK->Prop):Prop:= ∀(pins:List (Addr×Obj)) (s:Shared) (O:St) (H:Hp) (x:V) (xs:List V) (v:Value) (us:List Value) (Q:VK),Inv X pins O H s->yr x v->yw xs us->r x xs H Q-> wpAny (model X.prog X.w) X.A (call (.builtin id) (v::us)) (EP X pins O Q) X.xe s
theorem yw.one:∀{x:V}{us:List Value},yw [x] us->∃u,us=[u]/\yr x u | _,_,.cons r .nil=>⟨_,rfl,r⟩
theorem yw.rep{xs:List V}{us:List Value}(h:yw xs us):∀k:Nat,yw (List.replicate k xs).flatten (List.replicate k us).flatten
 | 0=>.nil | k+1=>by
  rw[_av,_av,_aS,_aS];exact yw.append h (yw.rep h k)
theorem foldl_rep(its:List Value):∀(k:Nat)(acc:List Value), List.foldl (λx1 x2=>x1++x2) acc.toArray (List.replicate k its.toArray)=(acc++(List.replicate k its).flatten).toArray
 | 0,acc=>by simp | k+1,acc=>by
  have e:acc.toArray++its.toArray=(acc++its).toArray:=by simp
  have e2:(acc++its)++(List.replicate k its).flatten=acc++(List.replicate (k+1) its).flatten:=by rw[_av,_aS,_a1]
  rw[<- e2,<- foldl_rep its k (acc++its),<- e,_av,_aX]
section
variable {X:Cx}{pins:List (Addr×Obj)}{O:St}{H:Hp}{s:Shared}{l b:Addr}{xs ys zs:List V}
theorem Inv.lset {its its':List Value} {n:Nat} {f:Array Value->Array Value} {t':Nat} (I:Inv X pins O H s) (hH:H l=some (.lst xs)) (e:s.heap.get? l=some {cls:=.type "list",data:=.seq its.toArray n}) (hf:f its.toArray=its'.toArray) (hv:yw ys its') (hz:ys.length<=sizeLine): Inv X pins O (upd H l (.lst ys)) {s with heap:=s.heap.update l (Obj.mapSeq f),toks:=t'}:=by
 have q:=PySem.IsL.update e f;rw[hf]at q;refine I.write (x:=l) (e:=l) (by rw[hH];exact trivial) (.inl rfl) (λb' u hb hu=>(_ah s.heap (Obj.mapSeq f) (_aM hb)).trans hu) ⟨_,q⟩ ?_;exact⟨hz,its',_,hv,q⟩
theorem Inv.lnew {its:List Value} {t':Nat} (I:Inv X pins O H s) (hv:yw ys its) (hz:ys.length<=sizeLine): Inv X pins O (upd H s.heap.objs.size (.lst ys)) {s with heap:=s.heap.push {cls:=.type "list",data:=.seq its.toArray},toks:=t'}:= I.laid (λ_ _ q=>_d _ q) (_h _) ⟨hz,its,0,hv,_n _ rfl⟩
theorem Inv.fresh(I:Inv X pins O H s):H s.heap.objs.size=none:=I.hok.fresh (_h _)
theorem Inv.lstM(I:Inv X pins O H s)(hH:H l=some (.lst xs)):xs.length<=sizeLine/\∃(its:List Value)(n:Nat),yw xs its/\xs.length=its.length/\s.heap.get? l=some {cls:=.type "list",data:=.seq its.toArray n}:=by
 obtain⟨z,its,n,r,e⟩:=I.hok l _ hH;exact⟨z,its,n,r,r.length,e⟩
theorem zdu{n:Nat}(h:n<=sizeLine):Builtin.List.listTooLong n=false:=by
 unfold Builtin.List.listTooLong;exact _X (by omega)
end
section
variable {X:Cx}
def zfV:V->List V->Hp->VK->Prop:=λx vs H Q=>∃l xs y,x=.ref l/\vs=[y]/\H l=some (.lst xs)/\xs.length<sizeLine/\Q .non (upd H l (.lst (xs++[y])))
theorem zb7:MtM X "list.append" zfV:=by
 intro pins s O H x vs v us Q I rx rv h;obtain⟨l,xs,y,rfl,rfl,hH,hz,q⟩:=h;cases rx;obtain⟨u,rfl,ru⟩:=rv.one;obtain⟨z,its,n,r,hl,e⟩:=I.lstM hH;refine _bd F.slot_list_append ⟨_,e,rfl⟩ F.entry_list_append (F.args_list_append_2 _ _) (PySem.list_append l its.toArray n u (by rw[_k];omega)) ⟨e,?_⟩;refine⟨.non,_,I.lset (its':=its++[u]) hH e (by simp) (r.append (.cons ru .nil)) ?_,rfl,q⟩;rw[_M,_b3];omega
def zly:R2:=λx y H Q=>∃l k xs,x=.ref l/\y=.int k/\Rd H l (.lst xs)/\-(2 ^ 63)<=k/\k<2 ^ 63/\xs.length*k.toNat<=sizeLine/\ ∀p,H p=none->Q (.ref p) (upd H p (.lst (List.replicate k.toNat xs).flatten))
theorem len_rep{α:Type}(xs:List α)(k:Nat):(List.replicate k xs).flatten.length=k*xs.length:=by induction k with
 | zero=>simp | succ k ih=>rw[_av,_aS,_M,ih,Nat.succ_mul,Nat.add_comm]
theorem zhz:OpR X (binaryOp .Mult) zly:=by
 intro pins s O H x y v u Q I rx ry h;obtain⟨l,k,xs,rfl,rfl,hH,h1,h2,hz,q⟩:=h;cases rx;obtain⟨t,rfl⟩:=ry;obtain⟨z,its,n,r,e⟩:=hH.ok I.hok;have hl:xs.length=its.length:=by have:=r.length;omega
 have hlen:its.toArray.size*k.toNat<=sizeLine:=by rw[_k,<- hl];exact hz
 have hcap:¬ its.toArray.size*k.toNat > (2 ^ 63-1) / 8:=by
  have:(sizeLine:Nat)<=(2 ^ 63-1) / 8:=by decide
  omega
 have hfit:¬ (!Builtin.List.listFitsIndex k)=true:=by
  rw[fitsIndex_both h1 h2];exact _R
 have hlong:¬ Builtin.List.listTooLong (its.toArray.size*k.toNat)=true:=by
  rw[zdu hlen];exact _R
 have hnew:List.foldl (λx1 x2=>x1++x2) #[] (List.replicate (if its.toArray.isEmpty=true then 0 else k.toNat) its.toArray)=(List.replicate k.toNat its).flatten.toArray:=by
  have f0:∀m:Nat,List.foldl (λx1 x2=>x1++x2) #[] (List.replicate m its.toArray)=(List.replicate m its).flatten.toArray:=λm=>by
   have:=foldl_rep its m [];rw[_bl]at this;exact this
  rw[f0];cases its with
  | nil=>simp | cons a r'=>rw[_j (by simp)]
 refine _bC (T:="list") (U:="int") (by decide) ⟨_,e,rfl⟩ (λs'=>_b9 s' k t) noFill_list_mul F.fills_int_mul _bm repeat_list _c2.lookup (_bd _bm (_b9 s k t) _c3 (_cM _ _) (int___rmul___int_list k t l its.toArray n) ⟨e,rfl,⟨_,e,rfl⟩,_bd F.slot_list_mul ⟨_,e,rfl⟩ F.entry_list_mul (F.args_list_mul_2 _ _) (AutoListH.list___mul___list_int_3 l its.toArray n k t hfit hcap hlong) ⟨e,?_⟩⟩);rw[hnew];exact⟨.ref _,_,I.lnew (t':=s.toks) (r.rep k.toNat) (by rw[len_rep,Nat.mul_comm];exact hz),rfl,q _ I.fresh⟩
end
end L2
namespace Att
open PySem.W PySem.Calls
theorem z2P{P:Params}{h:Heap}:∀(ns:List Int)(vs:List Value),WellAll P h vs (ns.map WData.int)->IntsAre vs ns:=by
 intro ns;induction ns with
 | nil=>
  intro vs w;rw[_bY]at w;cases w;exact .nil | cons n ns ih=>
  intro vs w;rw[_v]at w;cases w with | cons a b=>
   cases a;exact .cons _ _ (ih _ b)
theorem zbT {l:OpenLaw} {n:Nat} (hn:l.most=some n) {P:Params} {h:Heap} {args:List WData} {vals:List Value} (hpre:l.row.toRowW.claim.pre args=true) (hwl:WellAll P h vals args): ∃a vs ns,vals=[Value.ref a]/\args=[WData.list (ns.map WData.int)]/\h.get? a=some {cls:=.type "list",data:=.seq vs.toArray}/\IntsAre vs ns/\ns.length<=n:=by
 have hsh:WShape.hasAll [] args [.list .int]=true:=(pre_splitW hpre).1;have hc:l.pre.holds [] {args:=args}=true:=(pre_splitW hpre).2;obtain⟨d,r,rfl,h1,h2⟩:=hasAllW_cons hsh;obtain rfl:=hasAllW_nil h2;obtain⟨xs,rfl,h3⟩:=hasW_list h1;obtain⟨ns,rfl⟩:=items_int h3;have hlen:ns.length<=n:=by
  unfold OpenLaw.pre at hc;have h4:(WTm.not (.lt (.lit (.int (n:Int))) (.len (.arg 0)))).holds [] {args:=[.list (ns.map .int)]}=true:=by
   have h4:=(holds_andW hc).1;rw[hn]at h4;exact h4
  have h5:=condW_of h4 (w_not (w_lt w_lit (w_len_list (w_arg rfl))));rw[_I]at h5;refine Nat.le_of_not_lt λq=>?_;have q':(n:Int)<(ns.length:Int):=by omega
  first
   | (rw[_aq q']at h5;exact absurd h5 (by decide)) | (simp at h5;omega)
 cases hwl with | cons w1 w2=>
  cases w2;cases w1 with | list ho hall=>exact⟨_,_,ns,rfl,rfl,ho,z2P ns _ hall,hlen⟩
theorem zb8 (l:OpenLaw) (args:List WData):l.row.toRowW.claim.post args (.bool true) args=true:= postW_of (r:=l.row.toRowW) (X:=(true==true)) (show WShape.has [] (.bool true) .bool=true by first | rfl | decide | simp[WShape.has,WShape.arms,WShape.armsAll]) (show (WTm.eq .res (.lit (.bool true))).value [] {args:=args,res:=some (.bool true),after:=args}=some (.bool (true==true)) from w_eq_bool (w_res rfl) w_lit) rfl
theorem z76{l:OpenLaw}{n:Nat}{q:Program}{loose:List Str}{XP:(Str->Option Value)->Heap->Prop}{YP:World->Heap->Prop}{d:DefRec} (hn:l.most=some n)(hdf:d.params.defaults=[]) (call:∀(w:World)(s₀ s₁:Shared)(mg mb:Str->Option Value)(fa:Addr)(o:Obj)(pm cd doc:Value)(a:Addr)(vs:List Value)(ns:List Int), Ground q loose [] XP w s₀ mg mb s₁.heap->YP w s₁.heap-> s₁.heap.get? fa=some o->o.data=.func (docDef d.name d.params d.body d.scope pm cd doc)->s₁.heap.CodeRec cd d.name->mg d.name=some (.ref fa)-> s₁.heap.get? a=some {cls:=.type "list",data:=.seq vs.toArray}->IntsAre vs ns->ns.length<=n->s₁.gens=#[]-> codeAny (model l.prog w) callerA (.call (.ref fa) ⟨[.ref a],[]⟩) (λr s'=>r=.ok (.ret (.bool true))/\OldK s₁.heap s'.heap/\s'.os=s₁.os/\AllBare s'.gens) s₁): WalkO q loose XP YP l.row.toRowW d [] (λf vs=>PySem.call f vs):=by
 intro w s₀ s₁ mg mb G Yy fa o pm cd doc dV kV ho hd hcd hD hmg hg args vals as hpre hlay hrd hwl hlo;obtain rfl:dV=.none:=Dflts.none hD hdf;obtain rfl:kV=.none:=Dflts.noKw hD;obtain⟨a,vs,ns,rfl,rfl,hobj,hints,hlen⟩:=zbT hn hpre hwl;refine enter_call (_ct (call w s₀ s₁ mg mb fa o pm cd doc a vs ns G Yy ho (fd_plain hd) hcd hmg hobj hints hlen hg) λr s' hq=>?_);obtain⟨rfl,h2,h3,h4⟩:=hq;exact⟨.inl ⟨.bool true,.bool true,[],rfl,λ_=>rfl,.bool true,zb8 l _,λ_=>⟨List.Pairwise.nil,λ_ hm=>(nomatch hm)⟩⟩,h2,h3,h4⟩
section
variable {prog:Program}{w:World}{A:Around}{E:Value->Shared->Prop}{s:Shared}{K:Frag}
noncomputable def ledger(h:Heap)(L d:Addr):List (Addr×Obj):=(List.range h.objs.size).filterMap λa=>if a=L\/a=d then none else (h.get? a).map λo=>(a,o)
end
end Att
namespace L2
theorem z5o:∀{vs:List Value}{ns:List Int},IntsAre vs ns->yw (ns.map V.int) vs
 | _,_,.nil=>.nil | _,_,.cons n t h=>.cons ⟨t,rfl⟩ (z5o h)
def zkQ(H:Hp):Prop:=∀b,H b=none\/∃o xs,H b=some (.frz o (.lst xs))
theorem zd3 {P:Program} {w:World} {K:W.Frag} {mg mb:Str->Option Value} {CX:CXT} {k:Nat} {fa a:Addr} {fd:FuncData} {x:Str} {sp:Sp} {s₁:Shared} {vs:List Value} {ns:List Int} (KX:K.In s₁.heap) (hns:s₁.heap.Ns mainGlobals mg) (hb:s₁.heap.Ns builtinsNs mb) (hbb:∀x:Str,x≠"__name__"->mb x=bootBuiltins x) (hlim:s₁.heap.NoLimit) (hg:s₁.gens=#[]) (ha:s₁.heap.get? a=some {cls:=.type "list",data:=.seq vs.toArray}) (hi:IntsAre vs ns) (hl:ns.length<=sizeLine) (hr:z0e k callerA) (F:∀base:Heap,K.In base->base.Ns mainGlobals mg->z4y P w K mg base CX k fa fd [x] sp) (hbind:∀(s:Shared) (u:Value),BindsTo s fd ⟨[u],[]⟩ [(x,u)]) (hsp:∀H:Hp,zkQ H->SqL K H a (ns.map V.int)->sp [.ref a] H (λv _=>v=.bl true) λ_ _ _=>False) (hCX:∀H e s',CX [] H s₁ (λ_ _ _=>False) e s'->False): codeAny (model P w) callerA (.call (.ref fa) ⟨[.ref a],[]⟩) (λr s'=>r=.ok (.ret (.bool true))/\OldK s₁.heap s'.heap/\s'.os=s₁.os/\AllBare s'.gens) s₁:=by
 have rv:=z5o hi;have lenV:=hi.length;have core:∀H:Hp,zkQ H->SqL K H a (ns.map V.int)->HOk P w H s₁.heap->(∀b,H b≠none->b=a)->(H a≠none->K.lookup a=none)-> codeAny (model P w) callerA (.call (.ref fa) ⟨[.ref a],[]⟩) (λr s'=>r=.ok (.ret (.bool true))/\OldK s₁.heap s'.heap/\s'.os=s₁.os/\AllBare s'.gens) s₁:=by
  intro H hO hS hok hA hK;have base_of:∀{b:Addr} {o:Obj},s₁.heap.get? b=some o->H b=none->(zcU s₁.heap H).get? b=some o:=λe n=>zcS e n;have noA:∀{b:Addr} {o:Obj} {es:Array DictEntry} {ep:Nat},s₁.heap.get? b=some o->o.data=.dict es ep->H b=none:=λ{b o es ep} e d=>by cases q:H b with
   | none=>rfl | some u=>
    have e':b=a:=hA b (by rw[q];simp);subst e';rw[ha]at e;cases e;have d':Data.seq vs.toArray _=Data.dict es ep:=d;cases d'
  have nsK:∀{b:Addr} {m:Str->Option Value},s₁.heap.Ns b m->(zcU s₁.heap H).Ns b m:=λ{b m} ⟨o,es,ep,e,d,r⟩=>⟨o,es,ep,base_of e (noA e d),d,r⟩;have hKb:K.In (zcU s₁.heap H):=λb o e=>base_of (KX b o e) (by cases q:H b with
   | none=>rfl | some u=>
    have e':b=a:=hA b (by rw[q];simp);subst e';rw[hK (by rw[q];simp)]at e;cases e);have hM:Mod K mg (zcU s₁.heap H):=⟨hKb,nsK hns,⟨mb,nsK hb,hbb⟩,let ⟨mc,h1,h2⟩:=hlim;⟨mc,nsK h1,h2⟩⟩;have e0:zhR P w K mg (zcU s₁.heap H) callerA [] s₁ H:=⟨rfl,hM,λb o e=>zgL e,Nat.le_of_eq (z9S _ _),trivial,λb hb=>absurd (show b∈([]:List Addr) from hb) (by simp),hok,.of_eq hg⟩;refine _ct ((F _ hKb (nsK hns)).run callerA [] s₁ H ⟨[.ref a],[]⟩ [.ref a] [.ref a] _ _ hr e0 (hbind s₁ (.ref a)) (.cons rfl .nil) (hsp H hO hS)) λr s' h=>?_;cases r with
  | error e=>exact (hCX H e s' h).elim | ok fl=> cases fl with
   | next=>exact False.elim h | brk=>exact False.elim h | cont=>exact False.elim h | ret u=>
    obtain⟨v,H',os,bare,un,hok',r',q⟩:=h;have q':v=.bl true:=q;subst q';obtain rfl:u=Value.bool true:=r';refine⟨rfl,OldK.of_keep λb o e=>?_,os,bare⟩;cases q:H b with
    | none=>exact un.keep b o e q (by intro z;exact absurd (show b∈([]:List Addr) from z) (by simp)) (by simp) | some u=>
     rcases hO b with z | ⟨ob,xs,z⟩;·rw[q]at z;cases z
     ·have z2:=un.frzs b ob _ z;obtain⟨e1,_⟩:=hok b _ z;obtain⟨e2,_⟩:=hok' b _ z2;rw[e]at e1;cases e1;exact e2
 cases hk:K.lookup a with
 | some o=>
  have e:=KX a o hk;rw[ha]at e;cases e;refine core (λ_=>none) (λ_=>.inl rfl) (.inr ⟨_,vs.toArray,_,hk,rfl,rfl,rfl,by rw[_k,lenV];exact hl,by simpa using rv⟩) (λb u z=>by have z':(none:Option HO)=some u:=z;cases z') (λb z=>absurd rfl z) λz=>absurd rfl z | none=>
  refine core (λb=>if b=a then some (.frz {cls:=.type "list",data:=.seq vs.toArray} (.lst (ns.map V.int))) else none) (λb=>?_) (.inl (.inr ⟨{cls:=.type "list",data:=.seq vs.toArray},_e rfl⟩)) (λb u z=>?_) (λb z=>?_) λ_=>hk
  ·by_cases hb:b=a;·exact .inr ⟨_,_,_e hb⟩
   ·exact .inl (_j hb)
  ·by_cases hb:b=a
   ·have z':=(_e hb).symm.trans z;cases z';subst hb;exact⟨ha,by rw[_I];exact hl,vs,_,rv,ha⟩
   ·have z':=(_j hb).symm.trans z;cases z'
  ·by_cases hb:b=a;·exact hb
   ·exact absurd (_j hb) z
abbrev KOf{K:W.Frag}{h:Heap}(_:K.In h):W.Frag:=K
def z0r(s:Stmt):Arguments:=match s with
 | .FunctionDef _ a _ _ _ _ _ _ _ _=>a | _=>{posonlyargs:=[],args:=[],vararg:=none,kwonlyargs:=[],kw_defaults:=[],kwarg:=none,defaults:=[]}
def wW(s:Stmt):List Stmt:=match s with
 | .FunctionDef _ _ b _ _ _ _ _ _ _=>b | _=>[]
def zh(s:Stmt):Scope:=match s with
 | .FunctionDef _ _ _ _ _ _ sc _ _ _=>sc | _=>{kind:=.function,names:=[],isGenerator:=false,isCoroutine:=false}
abbrev CX0:CXT:=λ_ _ _ _ _ _=>False
abbrev E0:XK:=λ_ _ _=>False
theorem zM{X:Cx}:Passes CX0 X E0:=λ_ _ _ _ _ _ _ h=>h.elim
structure Fun(K:W.Frag)(x qual:Str)(st:Stmt)(f:Addr)(fd:FuncData):Prop where
 ex:∃(oc:Value)(od:Option Addr)(kV doc pm:Value)(an:Option Addr)(cdv ct:Value)(osl:Array (Option Value)), fd=W.fnOf x qual (z0r st) (wW st) (zh st) .none kV doc pm an cdv ct/\K.lookup f=some ⟨oc,od,.func fd,osl⟩/\W.codeIn K cdv qual=true
 kp:W.keepIn K (.ref f)=true
section
variable {P:Program}{w:World}{K:W.Frag}{mg:Str->Option Value}{base:Heap}
theorem Fun.ok{x qual:Str}{st:Stmt}{f:Addr}{fd:FuncData}{N ps:List Str}{k:Nat}{sp:Sp}(F:Fun K x qual st f fd)(S:zA N ps (zh st))(len:∀vs H Q E,sp vs H Q E->vs.length=ps.length) (hbody:∀(cdv:Value)(A:Around)(outer:List Env)(s:Shared)(H:Hp)(vs:List V)(Q:VK)(E:XK),z0e k (A.deeper (envOfC qual (zh st) s.heap.objs.size f cdv))->sp vs H Q E-> ∃t,PSs (z2i CX0 P w K mg base N qual (zh st) f cdv A outer s H E).nox (wW st) t/\t {nx:=λ_ H'=>Q .non H',rt:=Q} (start N vs) H):z4y P w K mg base CX0 (k+1) f fd ps sp:=by
 obtain⟨oc,od,kV,doc,pm,an,cdv,ct,osl,rfl,lk,hcd⟩:=F.ex;refine zh1 lk hcd S len λA outer s H vs Q E hr hsp=>?_;obtain⟨t,h,q⟩:=hbody cdv A outer s H vs Q E hr hsp;exact⟨t,h.nox,q⟩
theorem Fun.binds{x qual:Str}{st:Stmt}{f:Addr}{fd:FuncData}{ps:List Str}(F:Fun K x qual st f fd) (h:∀(kV doc pm:Value)(an:Option Addr)(cdv ct:Value)(us:List Value),us.length=ps.length->bindArgs (W.fnOf x qual (z0r st) (wW st) (zh st) .none kV doc pm an cdv ct) ⟨us,[]⟩=pure (ps.zip us)):Binds K fd ps []:=by
 obtain⟨oc,od,kV,doc,pm,an,cdv,ct,osl,rfl,lk,hcd⟩:=F.ex;exact .all (h kV doc pm an cdv ct)
theorem ziF{x qual:Str}{st:Stmt}{f:Addr}{oc:Value}{od an:Option Addr}{osl:Array (Option Value)}{kV doc pm cdv ct:Value}(l:K.lookup f=some ⟨oc,od,.func (W.fnOf x qual (z0r st) (wW st) (zh st) .none kV doc pm an cdv ct),osl⟩) (c:W.codeIn K cdv qual=true)(k:W.keepIn K (.ref f)=true):Fun K x qual st f (W.fnOf x qual (z0r st) (wW st) (zh st) .none kV doc pm an cdv ct):=⟨⟨oc,od,kV,doc,pm,an,cdv,ct,osl,rfl,l,c⟩,k⟩
end
section
variable {X:Cx}
theorem pv(i:Nat){x:Str}{pos:Pos}(hN:X.N[i]? = some x:=by rfl)(hv:Vis X.env.scope x:=by first | exact Or.inl rfl | exact Or.inr (Or.inl rfl) | exact Or.inr (Or.inr rfl))(hd:(x==("__debug__":Str))=false:=by decide) (hcd:(x==("__classdict__":Str))=false:=by decide):PE X (.Name x pos) (zlq i):=zaM hN hv hd hcd
end
end L2
set_option maxHeartbeats 4000000
namespace L2
noncomputable def z4C(env:Env):List (Str×NameKind)->List (Str×Addr)->List (Str×Addr)
 | [],acc=>acc | (n,k)::r,acc=>z4C env r (if k==.free then (match env.cells.lookup n with | some c=>(n,c)::acc | none=>acc) else acc)
theorem z2S{env:Env}:∀(names:List (Str×NameKind))(acc:List (Str×Addr)),(∀x c,acc.lookup x=some c->env.cells.lookup x=some c)->∀x c,(z4C env names acc).lookup x=some c->env.cells.lookup x=some c
 | [],acc,ha=>ha | (n,k)::r,acc,ha=>by
  unfold z4C;refine z2S r _ λx c=>?_;split
  ·split
   ·rename_i c' hc;intro h;rw[_Q]at h;split at h
    ·rename_i hb;cases h;rw[_aw.mp hb];exact hc
    ·exact ha x c h
   ·exact ha x c
  ·exact ha x c
theorem z6c{env:Env}{x:Str}:∀(names:List (Str×NameKind))(acc:List (Str×Addr)),(acc.lookup x).isSome=true->((z4C env names acc).lookup x).isSome=true
 | [],acc,ha=>ha | (n,k)::r,acc,ha=>by
  unfold z4C;refine z6c r _ ?_;split
  ·split
   ·rw[_Q];split;·rfl
    ·exact ha
   ·exact ha
  ·exact ha
theorem z46{env:Env}{x:Str}:∀(names:List (Str×NameKind))(acc:List (Str×Addr)),(x,NameKind.free)∈names->(∃c,env.cells.lookup x=some c)->∃c,(z4C env names acc).lookup x=some c
 | [],acc,h,_=>nomatch h | (n,k)::r,acc,h,hc=>by
  rcases _q.mp h with e | h
  ·cases e;obtain⟨c,hc⟩:=hc;unfold z4C;have q:((z4C env r ((x,c)::acc)).lookup x).isSome=true:=z6c r _ (by simp);rw[_e (by rfl),hc];exact _aA.mp q
  ·unfold z4C;exact z46 r _ h hc
theorem z3C{env:Env}(f:Str×NameKind->List (Str×Addr)->Sem (ForInStep (List (Str×Addr)))) (hf:∀n k cs,f (n,k) cs=if k==.free then (do let a <- cellOf env n;pure (.yield ((n,a)::cs))) else pure (.yield cs)): ∀(names:List (Str×NameKind))(acc:List (Str×Addr)),(∀y∈names,y.2=.free->∃c,env.cells.lookup y.1=some c)->forIn names acc f=pure (z4C env names acc)
 | [],acc,_=>rfl | (n,k)::r,acc,h=>by
  rw[List.forIn_cons,hf];have ih:=λacc'=>z3C f hf r acc' λy hy=>h y (_x _ hy);unfold z4C;by_cases hk:k=.free
  ·subst hk;obtain⟨c,hc⟩:=h (n,.free) _N rfl;have hc':env.cells.lookup n=some c:=hc;have e:cellOf env n=pure c:=by unfold cellOf;rw[hc']
   rw[_e (by rfl),_e (by rfl),e,hc',pure_bind,pure_bind];exact ih _
  ·have hb:(k==NameKind.free)=false:=by simpa using hk
   rw[hb,_j (by decide),_j (by decide),pure_bind];exact ih _
theorem wf{scope:Scope}{env:Env}(h:∀y∈scope.names,y.2=.free->∃c,env.cells.lookup y.1=some c):closureFor scope env=pure (z4C env scope.names []):=by
 simp only[closureFor];rw[z3C (env:=env) _ (λn k cs=>by cases hk:k==NameKind.free<;>simp[hk]) scope.names [] h];simp
theorem xI:∀(names:List (Str×NameKind))(n:Nat)(acc:List (Str×Addr)),cellsFrom n names acc=cellsFrom n names []++acc
 | [],_,_=>rfl | (x,k)::r,n,acc=>by
  unfold cellsFrom;split
  ·rw[xI r (n+1) ((x,n)::acc),xI r (n+1) [(x,n)]];simp
  ·exact xI r n acc
theorem qe{x:Str}{c:Addr}:∀(names:List (Str×NameKind))(n:Nat)(acc:List (Str×Addr)),(x,c)∈cellsFrom n names acc->(x,c)∈acc\/(x,NameKind.cell)∈names
 | [],_,_,h=>.inl h | (y,k)::r,n,acc,h=>by
  unfold cellsFrom at h;split at h
  ·rename_i hk;rcases qe r _ _ h with q | q
   ·rcases _q.mp q with e | q
    ·cases e;refine .inr ?_;rw[show k=NameKind.cell from _aw.mp hk];exact _N
    ·exact .inl q
   ·exact .inr (_x _ q)
  ·rcases qe r _ _ h with q | q;·exact .inl q
   ·exact .inr (_x _ q)
noncomputable def z7F(X:Cx)(scope:Scope)(C:Addr):Env:= {scope:=relabel scope X.env,locals:=C,globals:=X.env.globals,cells:=cellsFrom (C+1) scope.names []++z4C X.env scope.names [],qual:=X.env.qual,func:=none,code:=X.env.code,frame:=X.env.frame,builtins:=X.env.builtins}
noncomputable def zn(X:Cx)(N':List Str)(scope:Scope)(ex:List Addr)(s:Shared)(H:Hp):Cx where
 prog:=X.prog;w:=X.w;K:=X.K;mg:=X.mg;base:=X.base;A:=X.A;N:=N';s₀:=s;H₀:=H;env:=z7F X scope s.heap.objs.size;outer:=X.stack;stack:=X.stack;ex:=ex;fn:=λx=>scope.names.lookup x==some .cell;calm:=X.calm;pn:=[];xe:=λ_ _=>False
theorem jS{env:Env}{x:Str}{k:NameKind}:∀{names:List (Str×NameKind)},names.lookup x=some k-> (names.map λ(n,k)=>if (k==NameKind.free&&env.scope.kind==.function&&env.kindOf n==some .cell) then (n,NameKind.cell) else (n,k)).lookup x=some k\/ (k=.free/\(names.map λ(n,k)=>if (k==NameKind.free&&env.scope.kind==.function&&env.kindOf n==some .cell) then (n,NameKind.cell) else (n,k)).lookup x=some .cell)
 | [],h=>by simp at h | (n,k')::r,h=>by
  have ih:=@jS env x k r;show List.lookup x ((if (k'==NameKind.free&&env.scope.kind==.function&&env.kindOf n==some .cell)=true then (n,NameKind.cell) else (n,k'))::_)=_\/(_/\List.lookup x ((if (k'==NameKind.free&&env.scope.kind==.function&&env.kindOf n==some .cell)=true then (n,NameKind.cell) else (n,k'))::_)=_);cases hx:x==n with
  | true=>
   simp only[_Q,hx]at h;cases h;by_cases hc:(k==NameKind.free&&env.scope.kind==.function&&env.kindOf n==some .cell)=true
   ·rw[_e hc];simp only[_z,_aw]at hc;exact .inr ⟨hc.1.1,by simp[_Q,hx]⟩
   ·rw[_j hc];exact .inl (by simp[_Q,hx]) | false=>
   simp only[_Q,hx]at h;by_cases hc:(k'==NameKind.free&&env.scope.kind==.function&&env.kindOf n==some .cell)=true;·rw[_e hc];simp only[_Q,hx];exact ih h
   ·rw[_j hc];simp only[_Q,hx];exact ih h
theorem uD{env:Env}{x:Str}{k:NameKind}:∀{names:List (Str×NameKind)}, (names.map λ(n,k)=>if (k==NameKind.free&&env.scope.kind==.function&&env.kindOf n==some .cell) then (n,NameKind.cell) else (n,k)).lookup x=some k->(k=.cell\/k=.free)->(x,NameKind.cell)∈names\/(x,NameKind.free)∈names
 | [],h,_=>by simp at h | (n,k')::r,h,hk=>by
  have ih:=@uD env x k r;change List.lookup x ((if (k'==NameKind.free&&env.scope.kind==.function&&env.kindOf n==some .cell)=true then (n,NameKind.cell) else (n,k'))::_)=_ at h;have step:(List.lookup x (r.map λ(n,k)=>if (k==NameKind.free&&env.scope.kind==.function&&env.kindOf n==some .cell) then (n,NameKind.cell) else (n,k))=some k)->(x,NameKind.cell)∈(n,k')::r\/(x,NameKind.free)∈(n,k')::r:=λq=> (ih q hk).elim (λz=>.inl (_x _ z)) λz=>.inr (_x _ z);by_cases hc:(k'==NameKind.free&&env.scope.kind==.function&&env.kindOf n==some .cell)=true
  ·rw[_e hc,_Q]at h;split at h
   ·rename_i hb;simp only[_z,_aw]at hc;rw[_aw.mp hb,hc.1.1];exact .inr _N
   ·exact step h
  ·rw[_j hc,_Q]at h;split at h
   ·rename_i hb;cases h;rw[_aw.mp hb];rcases hk with rfl | rfl;·exact .inl _N
    ·exact .inr _N
   ·exact step h
noncomputable def inner(mp:List (Option Nat))(O:St):St:=mp.map λo=>match o with | some j=>(O[j]?).getD none | none=>none
noncomputable def z1c(N:List Str)(names:List (Str×NameKind)):List Str->List (Option Nat)->Bool
 | [],[]=>true | _::r,none::mp=>z1c N names r mp | x::r,some j::mp=>N[j]? == some x&&names.lookup x==some .free&&z1c N names r mp | _,_=>false
theorem z4d{N:List Str}{names:List (Str×NameKind)}:∀{N':List Str}{mp:List (Option Nat)},z1c N names N' mp=true->mp.length=N'.length
 | [],[],_=>rfl | _::_,none::_,h=>by
  simp only[z1c]at h;simp only[_g];rw[z4d h] | _::_,some _::_,h=>by
  simp only[z1c,_z]at h;simp only[_g];rw[z4d h.2] | [],none::_,h=>by cases h | [],some _::_,h=>by cases h | _::_,[],h=>by cases h
theorem z7H{N:List Str}{names:List (Str×NameKind)}:∀{N':List Str}{mp:List (Option Nat)}{i j:Nat}{x:Str},z1c N names N' mp=true->N'[i]? = some x->mp[i]? = some (some j)->N[j]? = some x/\names.lookup x=some .free
 | [],_,_,_,_,_,h,_=>by simp at h | _::_,[],_,_,_,_,_,h=>by simp at h | _::_,none::_,0,_,_,_,_,h=>by simp at h | _::_,some _::_,0,_,_,h,h1,h2=>by
  simp only[z1c,_z,_aw]at h;simp at h1 h2;subst h1 h2;exact h.1 | _::_,none::_,i+1,_,_,h,h1,h2=>by
  simp only[z1c]at h;exact z7H (i:=i) h (by simpa using h1) (by simpa using h2) | _::_,some _::_,i+1,_,_,h,h1,h2=>by
  simp only[z1c,_z]at h;exact z7H (i:=i) h.2 (by simpa using h1) (by simpa using h2)
section
variable {X:Cx}{pins:List (Addr×Obj)}{O:St}{H:Hp}{s s1:Shared}{scope:Scope}{N':List Str}{ex:List Addr}{mp:List (Option Nat)}
theorem z9y{α:Type}{x:Str}{l1 l2:List (Str×α)}{c:α}(h:(l1++l2).lookup x=some c):l1.lookup x=some c\/(l1.lookup x=none/\l2.lookup x=some c):=by
 rw[_bN]at h;cases e:l1.lookup x with
 | some d=>rw[e]at h;exact .inl h | none=>rw[e]at h;exact .inr ⟨rfl,h⟩
theorem z3Y (I:Inv X pins O H s) (hkd:scope.kind=.function) (hnm:∀y∈scope.names,scope.names.lookup y.1=some y.2) (hfr:∀y∈scope.names,y.2=.free->X.env.kindOf y.1=some .cell\/X.env.kindOf y.1=some .free) (hmp:z1c X.N scope.names N' mp=true) (hex:∀b∈ex,b<s.heap.objs.size/\H b=none/\b≠X.env.locals/\b∉X.fs/\(b∈X.ex\/X.s₀.heap.objs.size<=b)/\(∀x c,X.env.cells.lookup x=some c->c≠b)) (e1:s1.heap=pushCells (s.heap.push {cls:=.type "dict",data:=.dict #[]}) scope.names) (e2:s1.os=s.os) (e3:s1.gens=s.gens): Inv (zn X N' scope ex s H) [] (inner mp O) H s1:=by
 have keep:∀b o,s.heap.get? b=some o->s1.heap.get? b=some o:=λb o e=>by rw[e1];exact _ck _ _ b o (_d _ e)
 have ok:=cellsFrom_ok scope.names (s.heap.push {cls:=.type "dict",data:=.dict #[]}) (s.heap.objs.size+1) [] ⟨λ_ _ hm=>(nomatch hm),List.Pairwise.nil⟩ (by rw[_ak];exact _h _);rw[_ak,<- e1]at ok;have hclo:∀x c,(z4C X.env scope.names []).lookup x=some c->X.env.cells.lookup x=some c:=z2S scope.names [] (λx c h=>by simp at h);have clt:∀x c,X.env.cells.lookup x=some c->c<s.heap.objs.size:=λx c h=>by obtain⟨v,q⟩:=I.cell x c h;exact q.lt
 have own:∀x c,(cellsFrom (s.heap.objs.size+1) scope.names []).lookup x=some c->s1.heap.IsCell c none/\s.heap.objs.size+1<=c:=λx c h=>ok.empty x c (_ac h);have both:∀x c,(z7F X scope s.heap.objs.size).cells.lookup x=some c->((cellsFrom (s.heap.objs.size+1) scope.names []).lookup x=some c/\s1.heap.IsCell c none/\s.heap.objs.size+1<=c)\/(X.env.cells.lookup x=some c):=λx c h=>by
  rcases z9y h with q | ⟨_,q⟩;·exact .inl ⟨q,own x c q⟩
  ·exact .inr (hclo x c q)
 refine⟨⟨I.ok.mod,hkd,I.ok.glob,I.ok.blt,_h _,λx y c h1 h2=>?_,λx hx=>?_,λx c hf h=>?_,I.ok.hd,I.ok.frames,.inl rfl,λb hb=>⟨_y (hex b hb).1,λx c h=>?_⟩,λb o e=>I.bs b o e,_S I.ok.bsz I.sz,λb o e hb=>?_,λb hb hf=>?_,I.stack,I.stkFree⟩, e2,by rw[e3];exact I.bare,Un.kept keep,?_,λx c h=>?_,I.hok.fresh (_h _),λx c h=>?_,λp hp=>absurd (show p∈([]:List (Addr×Obj)) from hp) (by simp),I.hok.kept keep,?_⟩
 ·rcases both x c h1 with⟨q1,_,l1⟩ | q1<;>rcases both y c h2 with⟨q2,_,l2⟩ | q2;·exact name_of_addr ok.apart (_ac q1) (_ac q2)
  ·exact absurd (_p (clt y c q2) (_cN l1)) (_al _)
  ·exact absurd (_p (clt x c q1) (_cN l2)) (_al _)
  ·exact I.ok.inj x y c q1 q2
 ·have hx':(x,NameKind.cell)∈scope.names\/(x,NameKind.free)∈scope.names:=by
   rcases hx with hx | hx;·exact uD (env:=X.env) hx (.inl rfl)
   ·exact uD (env:=X.env) hx (.inr rfl)
  show ∃c,(cellsFrom (s.heap.objs.size+1) scope.names []++z4C X.env scope.names []).lookup x=some c;rw[_bN];cases e:(cellsFrom (s.heap.objs.size+1) scope.names []).lookup x with
  | some c=>exact⟨c,rfl⟩ | none=>
   rcases hx' with hx' | hx'
   ·obtain⟨c,q⟩:=z1t (sc:=scope) (n:=s.heap.objs.size+1) (hnm (x,.cell) hx');rw[q]at e;cases e
   ·obtain⟨c,q⟩:=z46 (env:=X.env) scope.names [] hx' (I.ok.has x (hfr (x,.free) hx' rfl));exact⟨c,by simpa using q⟩
 ·have hf':scope.names.lookup x=some .cell:=_aw.mp hf;obtain⟨c',q⟩:=z1t (sc:=scope) (n:=s.heap.objs.size+1) hf';have h':(cellsFrom (s.heap.objs.size+1) scope.names []++z4C X.env scope.names []).lookup x=some c:=h;rw[_bN,q]at h';have e:c'=c:=_K h';subst e;exact _dg (Nat.lt_of_succ_le (own x c' q).2)
 ·rcases both x c h with⟨_,_,l⟩ | q
  ·intro z;rw[z]at l;exact absurd (_p (hex b hb).1 (_cN l)) (_al _)
  ·exact (hex b hb).2.2.2.2.2 x c q
 ·rcases (hex b hb).2.2.2.2.1 with z | z;·exact I.ok.noex b o e z
  ·exact absurd (_p (_p (_m e) I.ok.bsz) z) (_al _)
 ·have q:=I.stkSub b hf;rcases _q.mp q with z | z;·exact (hex b hb).2.2.1 z
  ·exact (hex b hb).2.2.2.1 z
 ·refine⟨λ_=>none,?_,λi x v h1 h2 h3=>?_⟩
  ·rw[e1];exact (Heap.Ns.new s.heap (.type "dict")).keeps (_ck _ _)
  ·have h2':(inner mp O)[i]? = some (some v):=h2;unfold inner at h2';rw[_V]at h2';cases em:mp[i]? with
   | none=>rw[em]at h2';cases h2' | some o=>
    rw[em]at h2';cases o with
    | none=>cases h2' | some j=>
     obtain⟨hj,hl⟩:=z7H hmp h1 em;have hmem:(x,NameKind.free)∈scope.names:=_ac hl;have hv:O[j]? = some (some v):=by
      simp only[_as]at h2';cases eO:O[j]? with
      | none=>rw[eO]at h2';cases h2' | some o=>rw[eO]at h2';exact h2'
     obtain⟨m,hn,hlook⟩:=I.loc;have kx:X.env.kindOf x=some .cell\/X.env.kindOf x=some .free:=hfr _ hmem rfl;obtain⟨u,r,L⟩:=hlook j x v hj hv (by rcases kx with k | k;exact .inr (.inl k);exact .inr (.inr k));refine⟨u,r,.inr ?_⟩;rcases L with⟨k,_⟩ | ⟨_,c,hc,hcell⟩;·rcases kx with k' | k'<;>(rw[k]at k';cases k')
     ·have ncell:(x,NameKind.cell)∉scope.names:=λz=>by
       have a:=hnm _ z;rw[hl]at a;cases a
      refine⟨?_,c,?_,hcell.keeps keep⟩
      ·rcases jS (env:=X.env) hl with q | ⟨_,q⟩;·exact .inr q
       ·exact .inl q
      ·show (cellsFrom (s.heap.objs.size+1) scope.names []++z4C X.env scope.names []).lookup x=some c;rw[_bN];cases e:(cellsFrom (s.heap.objs.size+1) scope.names []).lookup x with
       | some c'=> exact absurd ((qe _ _ _ (_ac e)).resolve_left (by simp)) ncell | none=>
        obtain⟨c2,q⟩:=z46 (env:=X.env) scope.names [] hmem ⟨c,hc⟩;have q2:=hclo x c2 q;rw[hc]at q2;cases q2;simpa using q
 ·rcases both x c h with⟨_,q,_⟩ | q;·exact⟨_,q⟩
  ·obtain⟨v,z⟩:=I.cell x c q;exact⟨v,z.keeps keep⟩
 ·rcases both x c h with⟨_,_,l⟩ | q;·exact I.hok.fresh (by omega)
  ·exact I.freeC x c q
 ·unfold inner;rw[_I];exact z4d hmp
end
section
variable {M:Model}{A:Around}{E:Value->Shared->Prop}{s:Shared}
theorem z2X{scope:Scope}{env:Env}{cl:List (Str×Addr)}{Q:Env->Shared->Prop} (h:Q {scope:=scope,locals:=s.heap.objs.size,globals:=env.globals,cells:=cellsFrom (s.heap.objs.size+1) scope.names cl,qual:=env.qual,func:=none,code:=env.code,frame:=env.frame,builtins:=env.builtins} {s with heap:=pushCells (s.heap.push {cls:=.type "dict",data:=.dict #[]}) scope.names}): wpAny M A (newFunctionEnv scope env.globals cl [] env.qual none .none (some env)) Q E s:=by
 simp only[newFunctionEnv,Option.isSome_some,_G];refine _a (wpAny_alloc ?_);refine _a (wpAny_layCells _ (λname kind cells=>by cases hkc:kind==NameKind.cell<;>simp[hkc]) _ _ _ _ ?_);rw[show ({s with heap:=s.heap.push {cls:=.type "dict",data:=.dict #[]}}:Shared).heap.objs.size=s.heap.objs.size+1 from _ak ..];refine _a ?_;rw[List.forIn_nil];exact _b (_b h)
end
section
variable {prog:Program}{w:World}{A:Around}{E:Value->Shared->Prop}{R:Result->Shared->Prop}{s:Shared}
theorem z5I{elt target iter:Expr}{ifs:List Expr}{scope:Scope}{pos:Pos}{it acc:Value}{env:Env}(I:Nat->Shared->Prop) (turn:∀n s,I n s->wpAny (model prog w) A (pyNext it) (λr s₁=>match r with
   | none=>R (.ok .next) s₁ | some v=>wpAny (model prog w) A (letOwnedTupleGo target it v) (λ_ s₁'=>wpAny (model prog w) A (assign target env v) (λ_ s₂=> wpAny (model prog w) A (forIn ifs true λc r=>if r=true then do let ok <- isTrue c env (eval c env);pure (ForInStep.yield ok) else pure (ForInStep.yield r)) (λok s₃=> if ok=true then wpAny (model prog w) A (eval elt env) (λx s₄=> wpAny (model prog w) A (call (.builtin "list.append") [acc,x]) (λ_ s₅=>∃m,m<n/\I m s₅) (λ_ _=>False) s₄) (λ_ _=>False) s₃ else ∃m,m<n/\I m s₃) (λ_ _=>False) s₂) (λ_ _=>False) s₁') (λ_ _=>False) s₁) (λ_ _=>False) s) (n:Nat)(h:I n s): codeAny (model prog w) A (.compLoop (.ListComp elt [⟨target,iter,ifs,0⟩] scope pos) 0 it acc env) R s:=by
 refine codeAny_loop rfl I (λn s hI=>?_) n h;show wpAny _ A ((compTurn (.ListComp elt [⟨target,iter,ifs,0⟩] scope pos) 0 it acc env).onRaise (λx=>do noteFrame x env;theTreesLotGoes x)) _ _ s;refine wpAny_noted ?_;rw[compTurn_list];refine _a (_aH (_a (_r (turn n s hI) (λr s₁ h₁=>?_) λ_ _ h'=>h'.elim)));cases r with
 | none=>exact _b h₁ | some v=>
  refine _a (_r h₁ (λ_ s₁' h₁'=>?_) λ_ _ h'=>h'.elim);refine _a (_r h₁' (λ_ s₂ h₂=>_a (_r h₂ (λok s₃ h₃=>?_) λ_ _ h'=>h'.elim)) λ_ _ h'=>h'.elim);cases ok with
  | false=>exact _b ⟨rfl,h₃⟩ | true=> exact _a (_a (_r h₃ (λx s₄ h₄=>_a (_r h₄ (λ_ s₅ h₅=>_b (_b ⟨rfl,h₅⟩)) λ_ _ h'=>h'.elim)) λ_ _ h'=>h'.elim))
end
def z7W(X:Cx)(ifs:List Expr)(t:TT):Prop:= ∀(pins:List (Addr×Obj))(s:Shared)(O:St)(H:Hp)(Q:Bool->Hp->Prop),Inv X pins O H s->t O H Q-> wpAny (model X.prog X.w) X.A (forIn ifs true λc r=>if r=true then do let ok <- isTrue c X.env (eval c X.env);pure (ForInStep.yield ok) else pure (ForInStep.yield r)) (TP X pins O Q) X.xe s
theorem zdx{X:Cx}:z7W X [] (λ_ H Q=>Q true H):=λ_ _ _ H _ I h=>wpAny_tests_nil ⟨H,I,h⟩
theorem zdO{X:Cx}{c:Expr}{t:TT}(h:PT X c t):z7W X [c] t:=λpins s O H Q I hq=>wpAny_tests_one (h pins s O H Q I hq)
theorem Inv.track {X:Cx} {pins:List (Addr×Obj)} {O:St} {H:Hp} {s:Shared} {a:Addr} {o:HO} (I:Inv X pins O H s) (f:z3v X pins H a) (new:yM X.prog X.w (upd H a o) s.heap a o):Inv X pins O (upd H a o) s:=by
 obtain⟨f0,f1,f2,f3,f4,f5⟩:=f;have hs:HOk X.prog X.w (upd H a o) s.heap:=λb u e=>by
  by_cases hb:b=a;·subst hb;rw[zN]at e;cases e;exact new
  ·rw[zE hb]at e;exact (I.hok b u e).stay (λ_ _ _ q=>q) (λc q=>by rw[zE (yD q f0)];exact q) λc xs q=>by rw[zE (yD q f0)];exact q
 exact I.step (h':=s.heap) (g':=s.gens) (d':=s.drawn) (t':=s.toks) (ch:=[a]) (λb hb=>by
  have e:b=a:=by simpa using hb
  subst e;exact⟨f3,f1,f4,f5⟩) (λb o _ _ _ e _=>e) (λb o _ _ _ e _=>⟨o.slots,e⟩) (λb o hb _ n=>by rw[zE (λz=>hb (by simp[z]))];exact n) (λb o _ e=>⟨o,e⟩) (λb xs q=>by rw[zE (yD q f0)];exact q) (λb u xs q=>by rw[zE (yD q f0)];exact q) (λb ps q=>⟨#[],by rw[zE (yD q f0),q];simp⟩) (λ_ q=>q) hs I.bare
def zdN(wi:TI)(mp:List (Option Nat))(g:TG)(ti:TT)(te:TE):TE:=λO H Q=>wi O H λJ H1=>∃W:Nat->Nat->List V->Hp->Prop,(∃m,W 0 m [] H1)/\∀i m ys H,W i m ys H-> (J.stop i H/\ys.length<=sizeLine/\∀p,H p=none->Q (.ref p) (upd H p (.lst ys)))\/ (J.go i H/\∀x H',J.yld i H x H'->g x (inner mp O) H' λO2 H2=>(O2.length=(inner mp O).length/\∀(i:Nat) v,(inner mp O)[i]? = some (some v)->O2[i]? = some (some v))/\ ti O2 H2 λb H3=>if b=true then te O2 H3 λy H4=>ys.length<=sizeLine/\∃m',m'<m/\W (i+1) m' (ys++[y]) H4 else ∃m',m'<m/\W (i+1) m' ys H3)
def kM(X:Cx)(pins:List (Addr×Obj))(O:St)(C:Addr)(Q:VK)(acc:Value)(s':Shared):Prop:= ∃v Hf,Inv X pins O Hf s'/\yr v acc/\Q v Hf/\(∃m,s'.heap.Ns C m)/\z3v X pins Hf C
theorem z0p {X:Cx} {tg iter elt:Expr} {ifs:List Expr} {scope:Scope} {pos:Pos} {g:TG} {ti:TT} {te:TE} {N':List Str} {mp:List (Option Nat)} {pins:List (Addr×Obj)} {O:St} {Q:VK} {J:It} {H2:Hp} {s₂:Shared} {it:Addr} {fp:List Addr} {tn:Nat->Heap->Prop} {E:Value->Shared->Prop} {RR:Value->Addr->Result->Shared->Prop} (hc:X.calm=true) (hg:∀ex s H,PG (zn X N' scope ex s H) tg g) (ht:∀ex s H,z7W (zn X N' scope ex s H) ifs ti) (he:∀ex s H,PE (zn X N' scope ex s H) elt te) (hkd:scope.kind=.function) (hnm:∀y∈scope.names,scope.names.lookup y.1=some y.2) (hfr:∀y∈scope.names,y.2=.free->X.env.kindOf y.1=some .cell\/X.env.kindOf y.1=some .free) (hmp:z1c X.N scope.names N' mp=true) (I2:Inv X pins O H2 s₂) (T:zcK X.prog X.w X.K tg J fp it tn) (st2:tn 0 s₂.heap) (f2:∀b∈fp,z3v X pins H2 b) (W:Nat->Nat->List V->Hp->Prop) (w0:∃m,W 0 m [] H2) (turn:∀i m ys H,W i m ys H-> (J.stop i H/\ys.length<=sizeLine/\∀p,H p=none->Q (.ref p) (upd H p (.lst ys)))\/ (J.go i H/\∀x H',J.yld i H x H'->g x (inner mp O) H' λO2 H2=>(O2.length=(inner mp O).length/\∀(i:Nat) v,(inner mp O)[i]? = some (some v)->O2[i]? = some (some v))/\ ti O2 H2 λb H3=>if b=true then te O2 H3 λy H4=>ys.length<=sizeLine/\∃m',m'<m/\W (i+1) m' (ys++[y]) H4 else ∃m',m'<m/\W (i+1) m' ys H3)) (hRR:∀acc C s',kM X pins O C Q acc s'->RR acc C (.ok .next) s'): wpAny (model X.prog X.w) X.A (newList []) (λacc s₃=>wpAny (model X.prog X.w) X.A (newFunctionEnv scope X.env.globals (z4C X.env scope.names []) [] X.env.qual none .none (some X.env)) (λcenv s₄=> codeAny (model X.prog X.w) X.A (.compStart (.ListComp elt [⟨tg,iter,ifs,0⟩] scope pos) 0 (.ref it) acc {cenv with scope:=relabel scope X.env}) (RR acc cenv.locals) s₄) E s₃) E s₂:=by
 refine _U ?_;have hf2:H2 s₂.heap.objs.size=none:=I2.hok.fresh (_h _);have fA:z3v X pins H2 s₂.heap.objs.size:=I2.fpOk (_h _) hf2;generalize hacc:s₂.heap.objs.size=acc at hf2 fA ⊢;have I3:Inv X pins O H2 {s₂ with heap:=s₂.heap.push {cls:=.type "list",data:=.seq ([]:List Value).toArray}}:=I2.kept (t':=s₂.toks) λb o e=>_d _ e;have ha3:(s₂.heap.push {cls:=.type "list",data:=.seq ([]:List Value).toArray}).get? acc=some (LCg.lst []):=by rw[<- hacc];exact _n _ rfl
 have sz3:(s₂.heap.push {cls:=.type "list",data:=.seq ([]:List Value).toArray}).objs.size=acc+1:=by rw[_ak,hacc]
 have kp3:∀b o,s₂.heap.get? b=some o->(s₂.heap.push {cls:=.type "list",data:=.seq ([]:List Value).toArray}).get? b=some o:=λb o e=>_d _ e;show wpAny _ _ _ _ _ {s₂ with heap:=s₂.heap.push {cls:=.type "list",data:=.seq ([]:List Value).toArray}};generalize hs3:({s₂ with heap:=s₂.heap.push {cls:=.type "list",data:=.seq ([]:List Value).toArray}}:Shared)=s₃ at I3 ⊢;have ha3':s₃.heap.get? acc=some (LCg.lst []):=by rw[<- hs3];exact ha3
 have sz3':s₃.heap.objs.size=acc+1:=by rw[<- hs3];exact sz3
 have kp3':∀b o,s₂.heap.get? b=some o->s₃.heap.get? b=some o:=by rw[<- hs3];exact kp3
 have flt:∀b∈fp,b<acc:=λb hb=>by
  obtain⟨o,e,_⟩:=T.obj 0 _ st2 b hb;rw[<- hacc];exact _m e
 have fne:∀b∈fp,b≠acc:=λb hb=>_y (flt b hb);have tn3:tn 0 s₃.heap:=T.keep 0 _ _ st2 λb hb o e=>kp3' b o e;refine z2X ?_;rw[xI];have hex:∀b∈acc::fp,b<s₃.heap.objs.size/\H2 b=none/\b≠X.env.locals/\b∉X.fs/\(b∈X.ex\/X.s₀.heap.objs.size<=b)/\(∀x c,X.env.cells.lookup x=some c->c≠b):=λb hb=>by
  rcases _q.mp hb with z | hb
  ·subst z;exact⟨by rw[sz3'];exact _ba _,hf2,fA.2.1,fA.2.2.1,fA.2.2.2.1,fA.2.2.2.2.1⟩
  ·have q:=f2 b hb;exact⟨by rw[sz3'];exact _aJ (flt b hb),q.1,q.2.1,q.2.2.1,q.2.2.2.1,q.2.2.2.2.1⟩
 have I4:=z3Y (N':=N') (mp:=mp) (ex:=acc::fp) (s1:={s₃ with heap:=pushCells (s₃.heap.push {cls:=.type "dict",data:=.dict #[]}) scope.names}) I3 hkd hnm hfr hmp hex rfl rfl rfl;have kp4:∀b o,s₃.heap.get? b=some o->(pushCells (s₃.heap.push {cls:=.type "dict",data:=.dict #[]}) scope.names).get? b=some o:=λb o e=>_ck _ _ b o (_d _ e);generalize hs4:({s₃ with heap:=pushCells (s₃.heap.push {cls:=.type "dict",data:=.dict #[]}) scope.names}:Shared)=s₄ at I4 ⊢;have ha4:s₄.heap.get? acc=some (LCg.lst []):=by rw[<- hs4];exact kp4 _ _ ha3'
 have tn4:tn 0 s₄.heap:=T.keep 0 _ _ tn3 λb hb o e=>by rw[<- hs4];exact kp4 b o e
 have Cne:acc≠s₃.heap.objs.size:=by rw[sz3'];exact _y (_ba _)
 have celln:∀b∈acc::fp,∀x c,(z7F X scope s₃.heap.objs.size).cells.lookup x=some c->c≠b:=λb hb=>(I4.ok.exf b hb).2;have stat:∀{H':Hp} {o:Obj},(∀b∈fp,H' b=none)->∀b∈fp,z3v (zn X N' scope (acc::fp) s₃ H2) [(acc,o)] H' b:=λ{H' o} hn b hb=> ⟨hn b hb,_y (by show b<s₃.heap.objs.size;rw[sz3'];exact _aJ (flt b hb)),λhf=>I4.ok.exfs b (_x _ hb) hf,.inl (_x _ hb),celln b (_x _ hb),λp hp=>by
   have e:p=(acc,o):=by simpa[zn] using hp
   rw[e];exact _aM (fne b hb)⟩;have pinA:∀{O':St} {H':Hp} {s':Shared} {its:List Value},Inv (zn X N' scope (acc::fp) s₃ H2) [] O' H' s'->H' acc=none->s'.heap.get? acc=some (LCg.lst its)->Inv (zn X N' scope (acc::fp) s₃ H2) [(acc,LCg.lst its)] O' H' s':=λ{O' H' s' its} J' n' e'=> J'.pins_of λp hp=>by
   have e:p=(acc,LCg.lst its):=by simpa using hp
   subst e;refine⟨e',n',Cne,λhf=>I4.ok.exfs acc _N hf,λv z=>?_⟩;have z':Data.seq _ _=Data.cell v:=z;cases z'
 obtain⟨m0,w0⟩:=w0;have loop:codeAny (model X.prog X.w) X.A (.compLoop (.ListComp elt [⟨tg,iter,ifs,0⟩] scope pos) 0 (.ref it) (.ref acc) (z7F X scope s₃.heap.objs.size)) (RR (.ref acc) s₃.heap.objs.size) s₄:=by
  refine z5I (λn s'=>∃i ys its H',Inv (zn X N' scope (acc::fp) s₃ H2) [] (inner mp O) H' s'/\tn i s'.heap/\(∀b∈fp,H' b=none)/\H' acc=none/\s'.heap.get? acc=some (LCg.lst its)/\yw ys its/\W i n ys H') ?_ m0 ⟨0,[],[],H2,I4,tn4,λb hb=>(f2 b hb).1,hf2,ha4,.nil,w0⟩;rintro n s5 ⟨i,ys,its,H5,I5,tn5,n5,na5,ea5,rv5,w5⟩;have I5':=pinA I5 na5 ea5;rcases turn i n ys H5 w5 with⟨stop,hz,q⟩ | ⟨go,step⟩
  ·refine _r (T.done (zn X N' scope (acc::fp) s₃ H2) rfl rfl rfl hc i _ s5 _ H5 (λ_ _=>False) I5' (stat n5) tn5 stop) (λr s6 ⟨hr,I6⟩=>?_) λ_ _ z=>z;subst hr;have ea6:=(I6.pin (acc,LCg.lst its) (by simp)).1;have un:Un (frs X.stack) (acc::fp) H2 H5 s₃.heap s6.heap:=I6.base;have I7:Inv X pins O H5 s6:=I3.call' (s':=s6) (I6.os) un I6.hok I6.bare λb hb=>by
    rcases _q.mp hb with z | hb;·subst z;exact⟨fA.2.2.2.1,fA.2.1,fA.2.2.2.2.1,fA.2.2.2.2.2⟩
    ·exact⟨(f2 b hb).2.2.2.1,(f2 b hb).2.1,(f2 b hb).2.2.2.2.1,(f2 b hb).2.2.2.2.2⟩
   have C7:z3v X pins H5 s₃.heap.objs.size:=I3.fpOk (_h _) I6.free;refine hRR _ _ s6 ⟨.ref acc,upd H5 acc (.lst ys),I7.track ⟨na5,fA.2⟩ ?_,rfl,q acc na5,?_,?_,C7.2⟩;·exact⟨hz,its,_,rv5,ea6⟩
   ·obtain⟨m,hm,_⟩:=I6.loc;exact⟨m,hm⟩
   ·rw[zE (_aM Cne)];exact I6.free
  ·refine _r (T.item (zn X N' scope (acc::fp) s₃ H2) rfl rfl rfl hc i _ s5 _ H5 (λ_ _=>False) I5' (stat n5) tn5 go) (λr s6 ⟨u,hr,h6⟩=>?_) λ_ _ z=>z;subst hr;refine _r h6 (λ_ s7 ⟨x,H7,I7,r7,y7,tn7,n7⟩=>?_) λ_ _ z=>z;have I7':=I7.pinned (stat n7) (T.obj _ _ tn7);refine _r (hg _ _ _ _ s7 (inner mp O) H7 x u _ I7' r7 (step x H7 y7)) (λ_ s8 ⟨O8,H8,I8,⟨kl,kv⟩,q8⟩=>?_) λ_ _ z=>z;refine _r (ht _ _ _ _ s8 O8 H8 _ I8 q8) (λb s9 ⟨H9,I9,q9⟩=>?_) λ_ _ z=>z;have pinB:∀{O':St} {H':Hp} {s':Shared},Inv (zn X N' scope (acc::fp) s₃ H2) ([(acc,LCg.lst its)]++z3W fp s7.heap) O' H' s'->(∀b∈fp,H' b=none)/\H' acc=none/\s'.heap.get? acc=some (LCg.lst its)/\tn (i+1) s'.heap/\∀b∈fp,∀o,s7.heap.get? b=some o->s'.heap.get? b=some o:=λ{O' H' s'} J'=>by
    have z:=J'.pin (acc,LCg.lst its) (by simp[zn]);have zz:∀b∈fp,∀o,s7.heap.get? b=some o->s'.heap.get? b=some o/\H' b=none:=λb hb o e=>by
     have y:=J'.pin (b,o) (_s _ (_s _ (uV hb e)));exact⟨y.1,y.2.1⟩
    refine⟨λb hb=>?_,z.2.1,z.1,T.keep _ _ _ tn7 λb hb o e=>(zz b hb o e).1,λb hb o e=>(zz b hb o e).1⟩;obtain⟨o,e,_⟩:=T.obj _ _ tn7 b hb;exact (zz b hb o e).2
   cases b with
   | false=>
    rw[_j (by decide)]at q9 ⊢;obtain⟨m',lt,w9⟩:=q9;obtain⟨z1,z2,z3,z4,_⟩:=pinB I9;exact⟨m',lt,i+1,ys,its,H9,(I9.pins_of (pins':=[]) (λp hp=>absurd hp (by simp))).weak kl.symm kv,z4,z1,z2,z3,rv5,w9⟩ | true=>
    rw[_e rfl]at q9 ⊢;refine _r (he _ _ _ _ s9 O8 H9 _ I9 q9) (λyv s10 ⟨y,H10,I10,r10,hz,m',lt,w10⟩=>?_) λ_ _ z=>z;obtain⟨z1,z2,z3,z4,_⟩:=pinB I10;have zl:its.toArray.size<=sizeLine:=by rw[_k,<- rv5.length];exact hz
    refine append_at (hsz:=zl) z3 λh11 sb ea11=>?_;have I10':=(I10.pins_of (pins':=[]) (λp hp=>absurd hp (by simp))).weak kl.symm kv;have I11:Inv (zn X N' scope (acc::fp) s₃ H2) [] (inner mp O) H10 {s10 with heap:=h11}:=I10'.turned (t':=s10.toks) (λb o hb e=>(sb.2 b hb).trans e) z2 Cne (.inl _N) (celln acc _N) (λp hp=>absurd hp (by simp[zn]));exact⟨m',lt,i+1,ys++[y],its++[yv],H10,I11,T.keep _ _ _ z4 (λb hb o e=>(sb.2 b (fne b hb)).trans e),z1,z2,ea11.trans (_a0 some (LCg.lst_snoc its yv)),rv5.append (.cons r10 .nil),w10⟩
 exact codeAny_compStart_list loop (T.self _ 0 _ _ _ tn4 loop)
section
variable {X:Cx}{tg iter elt:Expr}{ifs:List Expr}{scope:Scope}{pos spos py:Pos}{wi:TI}{g:TG}{ti:TT}{te:TE}{N':List Str}{mp:List (Option Nat)}
theorem vX{pins:List (Addr×Obj)}{O:St}{H:Hp}{s:Shared}{h':Heap}{C:Addr}(I:Inv X pins O H s)(f:z3v X pins H C)(sb:Heap.SameBut C s.heap h'):Inv X pins O H {s with heap:=h'}:= I.turned (t':=s.toks) (λb o hb e=>(sb.2 b hb).trans e) f.1 f.2.1 f.2.2.2.1 f.2.2.2.2.1 f.2.2.2.2.2
theorem zfH (N':List Str) (mp:List (Option Nat)) (hc:X.calm=true) (hi:PI X tg iter wi) (hg:∀ex s H,PG (zn X N' scope ex s H) tg g) (ht:∀ex s H,z7W (zn X N' scope ex s H) ifs ti) (he:∀ex s H,PE (zn X N' scope ex s H) elt te) (hkd:scope.kind=.function) (hnm:∀y∈scope.names,scope.names.lookup y.1=some y.2) (hfr:∀y∈scope.names,y.2=.free->X.env.kindOf y.1=some .cell\/X.env.kindOf y.1=some .free) (hmp:z1c X.N scope.names N' mp=true) (hs:∀x,foldedSetIterable iter X.env x=pure x:=by intro _;rfl):PE X (.ListComp elt [⟨tg,iter,ifs,0⟩] scope pos) (zdN wi mp g ti te):=by
 intro pins s O H Q I h;rw[eval_ListComp];refine _aP (use:=none) rfl hs (wf λy hy hf=>I.ok.has _ (hfr y hy hf)) hkd (λy hy hl=>by rw[hnm y hy,hl]) (thn (hi pins s O H _ I h) λxv s₁ h₁=>thn h₁ λitv s₂ h₂=>?_);obtain⟨it,fp,tn,J,H2,e,I2,T,st2,f2,W,w0,turn⟩:=h₂;subst e;refine z0p (N':=N') (mp:=mp) (O:=O) (pins:=pins) (Q:=Q) (RR:=λacc C=>compPost (model X.prog X.w) X.A X.xe none (EP X pins O Q) acc C) hc hg ht he hkd hnm hfr hmp I2 T st2 f2 W w0 turn ?_;rintro acc C s' ⟨v,Hf,I3,r,q,⟨m,hm⟩,f⟩;exact⟨m,hm,λh' sb=>⟨v,Hf,vX I3 f sb,r,q⟩⟩
theorem z9n {i:Nat} {y:Str} (N':List Str) (mp:List (Option Nat)) (hN:X.N.Nodup) (hy:X.N[i]? = some y) (hyl:Loc X.env.scope y) (hc:X.calm=true) (hi:PI X tg iter wi) (hg:∀ex s H,PG (zn X N' scope ex s H) tg g) (ht:∀ex s H,z7W (zn X N' scope ex s H) ifs ti) (he:∀ex s H,PE (zn X N' scope ex s H) elt te) (hkd:scope.kind=.function) (hnm:∀y∈scope.names,scope.names.lookup y.1=some y.2) (hfr:∀y∈scope.names,y.2=.free->X.env.kindOf y.1=some .cell\/X.env.kindOf y.1=some .free) (hmp:z1c X.N scope.names N' mp=true) (hs:∀x,foldedSetIterable iter X.env x=pure x:=by intro _;rfl) (hsw:swapsWith (.ListComp elt [⟨tg,iter,ifs,0⟩] scope pos) (some (.Name y py)) spos.line X.env=pure true:=by rfl) (hf:X.fn y=true\/X.env.scope.names.lookup y=some .local:=by first | exact .inl rfl | exact .inr rfl | assumption): PS X (.Assign [.Name y py] (.ListComp elt [⟨tg,iter,ifs,0⟩] scope pos) spos) (zjX (zdN wi mp g ti te) (jH i)):=by
 intro pins s O H D I h;rw[_b4 _ _ _ _ hsw];refine _a (_aH (_a ?_));show wpAny _ X.A (do let _ <- comprehension (.ListComp elt [⟨tg,iter,ifs,0⟩] scope pos) scope X.env _ (newList []) false (eval iter X.env) (some (assign (.Name y py) X.env))) _ _ s;refine _a (_r (_aP (use:=some (assign (.Name y py) X.env)) (Q:=λ_ s'=>SP X pins D .next s') rfl hs (wf λy hy hf=>I.ok.has _ (hfr y hy hf)) hkd (λy hy hl=>by rw[hnm y hy,hl]) (thn (hi pins s O H _ I h) λxv s₁ h₁=>thn h₁ λitv s₂ h₂=>?_)) (λ_ s' hq=>_b (_b hq)) λ_ _ e=>e);obtain⟨it,fp,tn,J,H2,e,I2,T,st2,f2,W,w0,turn⟩:=h₂;subst e;refine z0p (N':=N') (mp:=mp) (O:=O) (pins:=pins) (Q:=λv H'=>D.nx (O.set i (some v)) H') (RR:=λacc C=>compPost (model X.prog X.w) X.A X.xe (some (assign (.Name y py) X.env)) (λ_ s'=>SP X pins D .next s') acc C) hc hg ht he hkd hnm hfr hmp I2 T st2 f2 W w0 turn ?_;rintro acc C s' ⟨v,Hf,I3,r,q,⟨m,hm⟩,f⟩;refine _bU (z06 I3 hN hy hyl r (λs'' I4 ⟨a,sb,ha⟩=>?_) hf);have hC:C≠a:=by
  rcases ha with z | z;·rw[z];exact f.2.1
  ·exact _aM (f.2.2.2.2.1 y a z)
 exact⟨m,hm.sameBut sb hC,λh' sb'=>⟨_,Hf,vX I4 f sb',q⟩⟩
end
section
variable {κ:Type} [DecidableEq κ]
def ve(kvs:List (κ×V))(k:κ):Option V:=(kvs.find? λkv=>decide (kv.1=k)).map (·.2)
def jI(kvs:List (κ×V))(k:κ)(v:V):List (κ×V):= if (kvs.any λkv=>decide (kv.1=k))=true then kvs.map (λkv=>if kv.1=k then (kv.1,v) else kv) else kvs++[(k,v)]
theorem wb{p:κ×V}{r:List (κ×V)}{k:κ}(e:p.1=k):ve (p::r) k=some p.2:=by simp[ve,_aY,e]
theorem xT{p:κ×V}{r:List (κ×V)}{k:κ}(e:¬ p.1=k):ve (p::r) k=ve r k:=by simp[ve,_aY,e]
theorem ju(k:κ):∀kvs:List (κ×V),(kvs.any λkv=>decide (kv.1=k))=(ve kvs k).isSome
 | []=>rfl | p::r=>by
  rw[_bG];by_cases e:p.1=k;·simp only[wb e,_aq e,Bool.true_or,Option.isSome_some]
  ·rw[xT e,_X e,Bool.false_or];exact ju k r
theorem z8l(k j:κ)(y:V):∀kvs:List (κ×V),ve (kvs.map λkv=>if kv.1=k then (kv.1,y) else kv) j=(ve kvs j).map λx=>if j=k then y else x
 | []=>rfl | p::r=>by
  have ih:=z8l k j y r;rw[_v];by_cases h:p.1=k
  ·rw[_e h];by_cases e:p.1=j;·rw[wb (p:=(p.1,y)) e,wb e,_as,_e (e.symm.trans h)]
   ·rw[xT (p:=(p.1,y)) e,xT e,ih]
  ·rw[_j h];by_cases e:p.1=j;·rw[wb (p:=p) e,wb e,_as,_j (λz=>h (e.trans z))]
   ·rw[xT (p:=p) e,xT e,ih]
theorem z6k(k j:κ)(y:V):∀kvs:List (κ×V),ve kvs k=none->ve (kvs++[(k,y)]) j=if j=k then some y else ve kvs j
 | [],_=>by
  by_cases e:k=j;·rw[_e e.symm];exact wb (p:=(k,y)) e
  ·rw[_j (λz=>e z.symm)];exact xT (p:=(k,y)) e | p::r,hn=>by
  rw[_bz];have hk:¬ p.1=k:=λz=>by rw[wb z]at hn;cases hn
  rw[xT hk]at hn;have ih:=z6k k j y r hn;by_cases e:p.1=j;·rw[wb e,wb e,_j (λz=>hk (e.trans z))]
  ·rw[xT e,xT e,ih]
theorem z4o(kvs:List (κ×V))(k j:κ)(y:V):ve (jI kvs k y) j=if j=k then some y else ve kvs j:=by
 unfold jI;by_cases a:(kvs.any λkv=>decide (kv.1=k))=true
 ·rw[_e a,z8l];rw[ju]at a;by_cases e:j=k
  ·obtain⟨x,hx⟩:=_aA.mp a;rw[_e e,e,hx,_as,_e rfl]
  ·rw[_j e];cases ve kvs j with
   | none=>rfl | some x=>rw[_as,_j e]
 ·rw[_j a];refine z6k k j y kvs ?_;rw[ju]at a;cases q:ve kvs k with
  | none=>rfl | some x=>rw[q]at a;exact (a rfl).elim
theorem z2W(kvs:List (κ×V))(k:κ)(v:V):(jI kvs k v).length<=kvs.length+1:=by
 unfold jI;split;·rw[_I];omega
 ·rw[_M,_g,_i];omega
theorem z9L.isSome_eq{o:Option V}{u:Option Value}(r:z9L o u):o.isSome=u.isSome:=by cases o with
 | none=>cases u with
  | none=>rfl | some _=>exact (show False from r).elim
 | some _=>cases u with
  | none=>exact (show False from r).elim | some _=>rfl
theorem z9L.getD{o:Option V}{u:Option Value}{d:V}{d':Value}(r:z9L o u)(rd:yr d d'):yr (o.getD d) (u.getD d'):=by cases o with
 | none=>cases u with
  | none=>exact rd | some _=>exact (show False from r).elim
 | some _=>cases u with
  | none=>exact (show False from r).elim | some _=>exact r
theorem KV.val{kvs:List (κ×V)}{vs:List (κ×Value)}(r:KV kvs vs)(k:κ):z9L (ve kvs k) (valueAt vs k):=by
 unfold KV at r;induction r with
 | nil=>exact True.intro | @cons p q ps qs h t ih=>
  obtain⟨h1,h2⟩:=h;by_cases e:p.1=k
  ·have e':q.1=k:=h1.symm.trans e;have b:valueAt (q::qs) k=some q.2:=by simp[valueAt,_aY,e']
   rw[wb e,b];exact h2
  ·have e':¬ q.1=k:=λz=>e (h1.trans z);have b:valueAt (q::qs) k=valueAt qs k:=by simp[valueAt,_aY,e']
   rw[xT e,b];exact ih
theorem KV.any{kvs:List (κ×V)}{vs:List (κ×Value)}(r:KV kvs vs)(k:κ):(kvs.any λkv=>decide (kv.1=k))=vs.any λkv=>decide (kv.1=k):=by
 unfold KV at r;induction r with
 | nil=>rfl | cons h t ih=>rw[_bG,_bG,ih,h.1]
theorem KV.repl{kvs:List (κ×V)}{vs:List (κ×Value)}(r:KV kvs vs)(k:κ){y:V}{u:Value}(ry:yr y u): KV (kvs.map λkv=>if kv.1=k then (kv.1,y) else kv) (vs.map λkv=>if kv.1=k then (kv.1,u) else kv):=by
 unfold KV at r ⊢;induction r with
 | nil=>exact .nil | @cons p q ps qs h t ih=>
  rw[_v,_v];refine .cons ?_ ih;obtain⟨h1,h2⟩:=h;by_cases e:p.1=k;·rw[_e e,_e (h1.symm.trans e)];exact⟨h1,ry⟩
  ·rw[_j e,_j (λz=>e (h1.trans z))];exact⟨h1,h2⟩
theorem KV.put{kvs:List (κ×V)}{vs:List (κ×Value)}(r:KV kvs vs)(k:κ){y:V}{u:Value}(ry:yr y u):KV (jI kvs k y) (stored vs k u):=by
 unfold jI stored;rw[r.any k];by_cases e:(vs.any λkv=>decide (kv.1=k))=true;·rw[_e e,_e e];exact r.repl k ry
 ·rw[_j e,_j e];exact Paired.snoc r ⟨rfl,ry⟩
theorem KV.length{kvs:List (κ×V)}{vs:List (κ×Value)}(r:KV kvs vs):kvs.length=vs.length:=_cd r
end
theorem z9K{P:Program}{w:World}{k:Key}{u:Value}(r:yr (kV k) u):(zK P w).is k u=true:=by cases k with
 | inl i=>obtain⟨t,e⟩:=(show ∃t,u=Value.int i t from r);subst e;exact z6O P w i t | inr x=>obtain⟨t,e⟩:=(show ∃t,u=Value.str x t from r);subst e;exact z21 P w x t
theorem z5F{P:Program}{w:World}:∀{ks:List Key}{us:List Value},yw (ks.map kV) us->ItemsAre (zK P w) ks us
 | [],_,r=>by rw[_bY]at r;cases r;exact .nil | k::ks,_,r=>by
  rw[_v]at r;cases r with | cons h t=>exact .cons (z9K h) (z5F t)
abbrev KT(H:Hp):List (List Key×V)->List (List Key×Addr×Value)->Prop:=Paired λp q=>p.1=q.1/\H q.2.1=some (.tup (p.1.map kV))/\yr p.2 q.2.2
theorem KT.val{H:Hp}{kvs:List (List Key×V)}{xs:List (List Key×Addr×Value)}(r:KT H kvs xs)(k:List Key):z9L (ve kvs k) ((atKey xs k).map (·.2)):=by induction r with
 | nil=>exact True.intro | @cons p q ps qs h t ih=>
  obtain⟨h1,_,h2⟩:=h;by_cases e:p.1=k
  ·have e':q.1=k:=h1.symm.trans e;have b:atKey (q::qs) k=some q.2:=by simp[atKey,_aY,e']
   rw[wb e,b];exact h2
  ·have e':¬ q.1=k:=λz=>e (h1.trans z);have b:atKey (q::qs) k=atKey qs k:=by simp[atKey,_aY,e']
   rw[xT e,b];exact ih
theorem KT.repl{H:Hp}{kvs:List (List Key×V)}{xs:List (List Key×Addr×Value)}(r:KT H kvs xs)(k:List Key){y:V}{u:Value}(ry:yr y u): KT H (kvs.map λkv=>if kv.1=k then (kv.1,y) else kv) (xs.map (putAt k u)):=by induction r with
 | nil=>exact .nil | @cons p q ps qs h t ih=>
  rw[_v,_v];refine .cons ?_ ih;obtain⟨h1,h2,h3⟩:=h;unfold putAt;by_cases e:p.1=k;·rw[_e e,_e (h1.symm.trans e)];exact⟨h1,h2,ry⟩
  ·rw[_j e,_j (λz=>e (h1.trans z))];exact⟨h1,h2,h3⟩
theorem KT.put{H:Hp}{kvs:List (List Key×V)}{xs:List (List Key×Addr×Value)}(r:KT H kvs xs)(k:List Key){b:Addr}{y:V}{u:Value}(hb:H b=some (.tup (k.map kV)))(ry:yr y u): KT H (jI kvs k y) (storedH xs k b u):=by
 have e:(kvs.any λkv=>decide (kv.1=k))=(atKey xs k).isSome:=by rw[ju,(r.val k).isSome_eq,_cO]
 unfold jI storedH;rw[e];by_cases q:(atKey xs k).isSome=true;·rw[_e q,_e q];exact r.repl k ry
 ·rw[_j q,_j q];exact Paired.snoc r ⟨rfl,hb,ry⟩
theorem KT.keeps{H H':Hp}{kvs:List (List Key×V)}{xs:List (List Key×Addr×Value)}(r:KT H kvs xs)(ht:∀b ys,H b=some (.tup ys)->H' b=some (.tup ys)):KT H' kvs xs:= Paired.mapP r λ_ _ z=>⟨z.1,ht _ _ z.2.1,z.2.2⟩
section
variable {P:Program}{w:World}{H:Hp}{h:Heap}{a:Addr}
theorem ziD{u:HO}(ok:HOk P w H h)(e:Rd H a u):yM P w H h a u:=e.ok ok
theorem z7G{kvs:List (Key×V)}(ok:HOk P w H h)(e:Rd H a (.dK kvs)):kvs.length<=sizeLine/\(a==sysModules)=false/\∃vs,KV kvs vs/\h.DictOf (zK P w) a vs:= show yM P w H h a (.dK kvs) from ziD ok e
theorem zkD{kvs:List (Key×V)}(ok:HOk P w H h)(e:H a=some (.dK kvs)):kvs.length<=sizeLine/\(a==sysModules)=false/\∃vs,KV kvs vs/\h.DictOf (zK P w) a vs:=z7G ok (.inl e)
theorem z3S{ks:List Key}(ok:HOk P w H h)(e:H a=some (.tup (ks.map kV))):(tupleKind (zK P w)).is h ks a:=by
 obtain⟨_,its,r,o,h1,h2,_,n,h3⟩:=(show yM P w H h a (.tup (ks.map kV)) from ok a _ e);exact⟨o,its.toArray,n,h1,h2,h3,by simpa using z5F r⟩
theorem z7x{kvs:List (List Key×V)}(ok:HOk P w H h)(e:Rd H a (.dT kvs)):kvs.length<=sizeLine/\(a==sysModules)=false/\ ∃xs,KT H kvs xs/\h.DictOfH (tupleKind (zK P w)) a xs:=by
 obtain⟨z,y,xs,r,o,es,ep,h1,h2,h3,h4,h5⟩:=(show yM P w H h a (.dT kvs) from ziD ok e);refine⟨z,y,xs,r,o,es,ep,h1,h2,h3,h4,λx hx=>?_,h5⟩;have all:∀{l:List (List Key×V)}{m:List (List Key×Addr×Value)},KT H l m->∀x∈m,(tupleKind (zK P w)).is h x.1 x.2.1:=by
  intro l m q;induction q with
  | nil=>intro x hx;exact nomatch hx | @cons p q ps qs hq t ih=>
   intro x hx;rcases _q.mp hx with e | hx
   ·subst e;exact z3S ok (by rw[<- hq.1];exact hq.2.1)
   ·exact ih x hx
 exact all r x hx
theorem zjO{kvs:List (List Key×V)}(ok:HOk P w H h)(e:H a=some (.dT kvs)):kvs.length<=sizeLine/\(a==sysModules)=false/\ ∃xs,KT H kvs xs/\h.DictOfH (tupleKind (zK P w)) a xs:=z7x ok (.inl e)
end
def zcx(H:Hp)(a:Addr)(y:V)(r:Option V):Prop:= (∃kvs k,Rd H a (.dK kvs)/\y=kV k/\r=ve kvs k)\/∃kvs k b,Rd H a (.dT kvs)/\y=.ref b/\H b=some (.tup (k.map kV))/\r=ve kvs k
def zjj(H:Hp)(a:Addr)(y v:V)(H':Hp):Prop:= (∃kvs k,H a=some (.dK kvs)/\y=kV k/\kvs.length<sizeLine/\H'=upd H a (.dK (jI kvs k v)))\/ ∃kvs k b,H a=some (.dT kvs)/\y=.ref b/\H b=some (.tup (k.map kV))/\kvs.length<sizeLine/\H'=upd H a (.dT (jI kvs k v))
theorem zjj.t{H:Hp}{a b:Addr}{kvs:List (List Key×V)}{k:List Key}{v:V}(e:H a=some (.dT kvs))(eb:H b=some (.tup (k.map kV)))(hl:kvs.length<sizeLine): zjj H a (.ref b) v (upd H a (.dT (jI kvs k v))):=.inr ⟨kvs,k,b,e,rfl,eb,hl,rfl⟩
section
variable {X:Cx}{pins:List (Addr×Obj)}{O:St}{H:Hp}{s:Shared}{a:Addr}{y v:V}{u r:Value}{o:Option V}{A:Around}{E:Value->Shared->Prop}
theorem Inv.big(I:Inv X pins O H s):sysModules<s.heap.objs.size:=by
 have h:mainGlobals<s.heap.objs.size:=(I.mod.glob.keeps I.bk).lt;exact Nat.lt_trans (by decide) h
theorem zaZ {Q:Value->Shared->Prop} (hu:A.units+1<cLine) (I:Inv X pins O H s) (g:zcx H a y (some v)) (ry:yr y u) (h:∀w' s',Inv X pins O H s'->yr v w'->Q w' s'): wpAny (model X.prog X.w) A (getItem (.ref a) u) Q E s:=by
 rcases g with⟨kvs,k,e,ey,l⟩ | ⟨kvs,k,b,e,ey,eb,l⟩
 ·subst ey;obtain⟨z,hd,vs,rel,dd⟩:=z7G I.hok e;obtain⟨w',hw,rw'⟩:=z9L.some_of (v:=v) (o:=valueAt vs k) (by rw[l];exact rel.val k);exact wpAny_getItem_of (z9K ry) dd.mapOf hw (h w' _ (I.tok _) rw')
 ·subst ey;cases (show u=Value.ref b from ry);obtain⟨z,hd,xs,rel,dd⟩:=z7x I.hok e;obtain⟨w',hw,rw'⟩:=z9L.some_of (v:=v) (o:=(atKey xs k).map (·.2)) (by rw[l];exact rel.val k);obtain⟨p,hp,hp2⟩:=_w.mp hw;refine wpAny_getItem_heap (_be hu) (z3S I.hok eb) dd hp ?_;rw[hp2];exact h w' _ (I.tok _) rw'
theorem zm4{Q:Value->Shared->Prop}(hu:A.units+1<cLine)(I:Inv X pins O H s)(g:zcx H a y o)(ry:yr y u)(h:∀s',Inv X pins O H s'->Q (.bool o.isSome) s'): wpAny (model X.prog X.w) A (compareOp .In u (.ref a)) Q E s:=by
 rcases g with⟨kvs,k,e,ey,l⟩ | ⟨kvs,k,b,e,ey,eb,l⟩
 ·subst ey;obtain⟨z,hd,vs,rel,dd⟩:=z7G I.hok e;refine wpAny_in_of (z9K ry) hd dd.mapOf ?_;rw[<- (rel.val k).isSome_eq,<- l];exact h _ (I.tok _)
 ·subst ey;cases (show u=Value.ref b from ry);obtain⟨z,hd,xs,rel,dd⟩:=z7x I.hok e;refine wpAny_in_heap (_be hu) (z3S I.hok eb) hd dd ?_;have q:=(rel.val k).isSome_eq;rw[_cO]at q;rw[<- q,<- l];exact h _ (I.tok _)
theorem zgj{Q:Value->Shared->Prop}(hu:A.units+1<cLine)(I:Inv X pins O H s)(g:zcx H a y o)(ry:yr y u)(h:∀s',Inv X pins O H s'->Q (.bool (!o.isSome)) s'): wpAny (model X.prog X.w) A (compareOp .NotIn u (.ref a)) Q E s:=by
 rcases g with⟨kvs,k,e,ey,l⟩ | ⟨kvs,k,b,e,ey,eb,l⟩
 ·subst ey;obtain⟨z,hd,vs,rel,dd⟩:=z7G I.hok e;refine wpAny_notIn_of (z9K ry) hd dd.mapOf ?_;rw[<- (rel.val k).isSome_eq,<- l];exact h _ (I.tok _)
 ·subst ey;cases (show u=Value.ref b from ry);obtain⟨z,hd,xs,rel,dd⟩:=z7x I.hok e;refine wpAny_notIn_heap (_be hu) (z3S I.hok eb) hd dd ?_;have q:=(rel.val k).isSome_eq;rw[_cO]at q;rw[<- q,<- l];exact h _ (I.tok _)
theorem za8 {h':Heap} {t':Nat} {ob:HO} (I:Inv X pins O H s) (mu:Mut (H a)) (hs:Heap.SameBut a s.heap h') (he:∃q,h'.get? a=some q) (new:yM X.prog X.w (upd H a ob) h' a ob): Inv X pins O (upd H a ob) {s with heap:=h',toks:=t'}:= I.write (x:=a) (e:=a) mu (.inl rfl) (λb q hb z=>(hs.2 b hb).trans z) he new
theorem zhf{P:Program}{w:World}{H':Hp}{h':Heap}{kvs:List (Key×V)}{vs:List (Key×Value)}(z:kvs.length<=sizeLine)(hd:(a==sysModules)=false)(rel:KV kvs vs)(dd:h'.DictOf (zK P w) a vs): yM P w H' h' a (.dK kvs):=⟨z,hd,vs,rel,dd⟩
theorem zay{H':Hp}{Q:Unit->Shared->Prop}(hu:A.units+1<cLine)(I:Inv X pins O H s)(g:zjj H a y v H')(ry:yr y u)(rv:yr v r)(h:∀s',Inv X pins O H' s'->Q () s'): wpAny (model X.prog X.w) A (setItem (.ref a) u r) Q E s:=by
 rcases g with⟨kvs,k,e,ey,l,eH⟩ | ⟨kvs,k,b,e,ey,eb,l,eH⟩
 ·subst ey eH;obtain⟨z,hd,vs,rel,dd⟩:=zkD I.hok e;have hz:vs.length<=sizeLine:=by rw[<- rel.length];exact z
  have hl:(jI kvs k v).length<=sizeLine:=by have:=z2W kvs k v;omega
  refine wpAny_setItem_pairs (hsz:=hz) (z9K ry) dd λh' dd' hs=>h _ ?_;have he:∃q,h'.get? a=some q:=let ⟨q,_,_,hq,_⟩:=dd';⟨q,hq⟩;exact za8 I (by rw[e];exact True.intro) hs he (zhf hl hd (rel.put k rv) dd')
 ·subst ey eH;cases (show u=Value.ref b from ry);obtain⟨z,hd,xs,rel,dd⟩:=zjO I.hok e;have hz:xs.length<=sizeLine:=by rw[<- _cd rel];exact z
  have hl:(jI kvs k v).length<=sizeLine:=by have:=z2W kvs k v;omega
  refine wpAny_setItem_heap (hsz:=hz) (_be hu) (z3S I.hok eb) dd λh' dd' hs=>h _ ?_;obtain⟨q,es,ep,hq,h2,h3,h4,_,h5⟩:=dd';refine za8 I (by rw[e];exact True.intro) hs ⟨q,hq⟩ ⟨hl,hd,_,(rel.put k eb rv).keeps λc ys ec=>?_,q,es,ep,hq,h2,h3,h4,h5⟩;rw[zE (zjJ ec e (λz=>nomatch z))];exact ec
end
def zkr(i:Expr):Prop:=∀ov iv,subscripted i false ov iv=operate [ov,iv] (getItem ov iv)
theorem zgw{prog:Program}{w:World}{A:Around}{E:Value->Shared->Prop}{s:Shared}{env:Env}{value slice:Expr}{pos:Pos}{T id:String}{Q:Value->Shared->Prop} (hl:typeLookup (.type T) "__getitem__"=pure (some (.builtin id)))(hs:zkr slice) (h:wpAny (model prog w) A (eval value env) (λo s₁=>wpAny (model prog w) A (eval slice env) (λi s₂=>s₂.TypeIs o T/\wpAny (model prog w) A (getItem o i) Q E s₂) E s₁) E s): wpAny (model prog w) A (eval (.Subscript value slice pos) env) Q E s:=by
 refine Subscript_ (_r h (λo s₁ h₁=>_r h₁ (λi s₂ h₂=>?_) λ_ _ x=>x) λ_ _ x=>x);obtain⟨hT,h₂⟩:=h₂;unfold subscriptTail;refine _a ?_;rw[getitemInPython_of_ne hT.not_modules];refine _a (wpAny_specialOf hT hl ?_);have fin:wpAny (model prog w) A (subscripted slice false o i) (λr s₃=>wpAny (model prog w) A (letTemporaryGo value o r >>= λ_=>pure r) Q E s₃) E s₂:=by
  rw[hs o i];exact wpAny_operating (_r h₂ (λr s₃ h₃=>_a (wpAny_letTemporaryGo (_b h₃))) λ_ _ x=>x)
 first
  | exact _b (_a fin) | exact _a (_b (_a fin)) | exact _a fin
theorem z7d{X:Cx}{pins:List (Addr×Obj)}{O:St}{H:Hp}{s:Shared}{a:Addr}{y:V}{o:Option V}(I:Inv X pins O H s)(g:zcx H a y o):s.TypeIs (.ref a) "dict":=by
 rcases g with⟨kvs,k,e,_,_⟩ | ⟨kvs,k,b,e,_,_,_⟩
 ·obtain⟨_,_,vs,_,dd⟩:=z7G I.hok e;exact dd.typeIs
 ·obtain⟨_,_,xs,_,dd⟩:=z7x I.hok e;exact dd.typeIs
def zk1(td ty:TE):TE:=λO H Q=>td O H λx H1=>ty O H1 λy H2=>∃a v,x=.ref a/\zcx H2 a y (some v)/\Q v H2
def zk0(td ty tv:TE):TS:=λD O H=>tv O H λv H1=>td O H1 λx H2=>ty O H2 λy H3=>∃a H4,x=.ref a/\zjj H3 a y v H4/\D.nx O H4
section
variable {X:Cx}{o i e value:Expr}{pos pos' tpos:Pos}{td ty tv:TE}
theorem zeJ(hu:X.A.units+1<cLine)(ho:PE X o td)(hi:PE X i ty)(hs:zkr i):PE X (.Subscript o i pos) (zk1 td ty):=by
 intro pins s O H Q I h;refine zgw PySem.F.slot_dict_getitem.lookup hs (thn (ho pins s O H _ I h) λu s1 ⟨x,H1,I1,rx,q1⟩=>thn (hi pins s1 O H1 _ I1 q1) λiv s2 ⟨y,H2,I2,ry,a,v,ex,g,q2⟩=>?_);subst ex;obtain rfl:u=Value.ref a:=rx;exact⟨z7d I2 g,zaZ hu I2 g ry λw' s3 I3 rw'=>⟨v,H2,I3,rw',q2⟩⟩
theorem zeZ(hu:X.A.units+1<cLine)(ho:PE X o td)(hi:PE X i ty)(hv:PE X value tv)(hs:swapsWith value (some (.Subscript o i pos')) pos.line X.env=pure false): PS X (.Assign [.Subscript o i pos'] value pos) (zk0 td ty tv):=by
 intro pins s O H D I h;refine wpAny_Assign_Subscript (thn (hv pins s O H _ I h) λr s1 ⟨v,H1,I1,rv,q1⟩=>thn (ho pins s1 O H1 _ I1 q1) λu s2 ⟨x,H2,I2,rx,q2⟩=>thn (hi pins s2 O H2 _ I2 q2) λiv s3 ⟨y,H3,I3,ry,a,H4,ex,g,q3⟩=>?_) hs;subst ex;obtain rfl:u=Value.ref a:=rx;exact zay hu I3 g ry rv λs4 I4=>⟨O,H4,I4,q3⟩
end
theorem zd1{P:Program}{w:World}{H:Hp}(h:Heap)(hb:sysModules<h.objs.size):yM P w H (h.push {cls:=.type "dict",data:=.dict #[]}) h.objs.size (.dT []):= ⟨_am _,beq_eq_false_iff_ne.mpr (_aM (_y hb)),[],.nil,_,#[],0,_n _ rfl,⟨rfl,rfl,rfl⟩,rfl,rfl,List.nodup_nil⟩
def zi0:TE:=λ_ H Q=>∀p,H p=none->Q (.ref p) (upd H p (.dT []))
section
variable {X:Cx}{pos:Pos}
theorem zdF:PE X (.Dict [] [] pos) zi0:=λpins s O H Q I h=> wpAny_Dict_empty ⟨.ref s.heap.objs.size,_,I.laid (a:=s.heap.objs.size) (o:=.dT []) (t':=s.toks) (λ_ _ q=>_d _ q) (_h _) (zd1 s.heap I.big),rfl,h _ (I.hok.fresh (_h _))⟩
end
structure M2(X:Cx)(o:Expr)(m:Str)(apos:Pos)(e f:Expr)(cpos:Pos):Prop where
 base:attributeBase o m X.env (eval o X.env)=eval o X.env
 few:((backTo cpos (starEach [e,f] X.env)).all (λx=>!x.1)&&(backToKw cpos (keywordEach [] X.env)).all (λx=>x.1.isSome) && decide (([e,f]:List Expr).length+([]:List Keyword).length+(if ([]:List Keyword).isEmpty then 0 else 1)<30))=true
 line:(apos.endLine==cpos.line)=true
 trees:backTo cpos (starEach [e,f] X.env)=[(false,eval e X.env),(false,eval f X.env)]
def IsD(H:Hp)(a:Addr):Prop:=(∃kvs,Rd H a (.dK kvs))\/∃kvs,Rd H a (.dT kvs)
theorem ziq{X:Cx}{pins:List (Addr×Obj)}{O:St}{H:Hp}{s:Shared}{a:Addr}(I:Inv X pins O H s)(d:IsD H a): s.TypeIs (.ref a) "dict"/\(∀b,Value.ref a=.ref b->∃ob,s.heap.get? b=some ob/\ob.dict=none)/\(a==sysModules)=false:=by
 rcases d with⟨kvs,e⟩ | ⟨kvs,e⟩
 ·obtain⟨_,hd,vs,_,dd⟩:=z7G I.hok e;refine⟨dd.typeIs,λb q=>?_,hd⟩;cases q;obtain⟨ob,_,_,h1,h2,_⟩:=dd;exact⟨ob,h1,h2.2.1⟩
 ·obtain⟨_,hd,xs,_,dd⟩:=z7x I.hok e;refine⟨dd.typeIs,λb q=>?_,hd⟩;cases q;obtain⟨ob,_,_,h1,h2,_⟩:=dd;exact⟨ob,h1,h2.2.1⟩
section
variable {X:Cx}{pins:List (Addr×Obj)}{O:St}{H:Hp}{s:Shared}{a:Addr}{y d:V}{u r:Value}{o:Option V}{A:Around}{E:Value->Shared->Prop}
theorem zht{Q:Value->Shared->Prop}(hu:A.units+1<cLine)(I:Inv X pins O H s)(g:zcx H a y o)(ry:yr y u)(rd:yr d r)(h:∀w' s',Inv X pins O H s'->yr (o.getD d) w'->Q w' s'): wpAny (model X.prog X.w) A (call (.builtin "dict.get") [.ref a,u,r]) Q E s:=by
 rcases g with⟨kvs,k,e,ey,l⟩ | ⟨kvs,k,b,e,ey,eb,l⟩
 ·subst ey;obtain⟨z,hd,vs,rel,dd⟩:=z7G I.hok e;refine call_meetsIn _b5 dd.typeIs PySem.F.entry_dict_get (PySem.F.args_dict_get_3 _ _ _) (meets_dict_get_default (zK X.prog X.w) a (z9K ry) hd r) ⟨_,dd.mapOf,h _ _ (I.tok _) ?_⟩;rw[l];exact (rel.val k).getD rd
 ·subst ey;cases (show u=Value.ref b from ry);obtain⟨z,hd,xs,rel,dd⟩:=z7x I.hok e;refine call_meetsIn _b5 dd.typeIs PySem.F.entry_dict_get (PySem.F.args_dict_get_3 _ _ _) (meetsH_dict_get_default (tupleKind (zK X.prog X.w)) a b hd r) ⟨_be hu,k,xs,z3S I.hok eb,dd,h _ _ (I.tok _) ?_⟩;rw[l];exact (rel.val k).getD rd
end
def ziE(td ty tx:TE):TE:=λO H Q=>td O H λx H1=>∃a,x=.ref a/\IsD H1 a/\ty O H1 λy H2=>tx O H2 λz H3=>∃o,zcx H3 a y o/\Q (o.getD z) H3
section
variable {X:Cx}{o e f:Expr}{apos cpos:Pos}{td ty tx:TE}
theorem zcC(hu:X.A.units+1<cLine)(ho:PE X o td)(he:PE X e ty)(hf:PE X f tx)(m:M2 X o "get" apos e f cpos):PE X (.Call (.Attribute o "get" apos) [e,f] [] cpos) (ziE td ty tx):=by
 intro pins s O H Q I h;refine wpAny_Call_method m.base m.few m.line PySem.F.plainAttrs_dict _b5 PySem.F.type_dict_get (thn (ho pins s O H _ I h) λu s1 ⟨x,H1,I1,rx,a,ex,d,q1⟩=>?_);subst ex;obtain rfl:u=Value.ref a:=rx;obtain⟨t1,t2,_⟩:=ziq I1 d;refine⟨t1,t2,?_⟩;rw[m.trees];refine _bX rfl (_bu (_bM (thn (he pins s1 O H1 _ I1 q1) λiv s2 ⟨y,H2,I2,ry,q2⟩=> _bM (thn (hf pins s2 O H2 _ I2 q2) λfv s3 ⟨z,H3,I3,rz,ov,g,q3⟩=>_cJ ?_))));exact zht hu I3 g ry rz λw' s4 I4 rw'=>⟨_,H3,I4,rw',q3⟩
end
end L2
set_option maxHeartbeats 4000000
namespace Dd
open L2
theorem zcQ(xs:List Expr)(k:Nat)(p:Pos)(es:List Expr)(env:Env):starEach (.Tuple xs k p::es) env=(false,eval (.Tuple xs k p) env)::starEach es env:=rfl
theorem zdg(xs:List Expr)(p:Pos)(es:List Expr)(env:Env):starEach (.List xs p::es) env=(false,eval (.List xs p) env)::starEach es env:=rfl
theorem z1E(f:Expr)(xs:List Expr)(ks:List Keyword)(p:Pos)(es:List Expr)(env:Env):starEach (.Call f xs ks p::es) env=(false,eval (.Call f xs ks p) env)::starEach es env:=rfl
theorem z4A(a:Expr)(o:Operator)(b:Expr)(p:Pos)(es:List Expr)(env:Env):starEach (.BinOp a o b p::es) env=(false,eval (.BinOp a o b p) env)::starEach es env:=rfl
theorem z8e(a b:Expr)(p:Pos)(es:List Expr)(env:Env):starEach (.Subscript a b p::es) env=(false,eval (.Subscript a b p) env)::starEach es env:=rfl
theorem vO(a:Expr)(g:List Comprehension)(sc:Scope)(p:Pos)(es:List Expr)(env:Env):starEach (.ListComp a g sc p::es) env=(false,eval (.ListComp a g sc p) env)::starEach es env:=rfl
theorem z3X(c:Const)(j:Nat)(p:Pos)(es:List Expr)(env:Env):starEach (.Constant c j p::es) env=(false,eval (.Constant c j p) env)::starEach es env:=rfl
theorem zC(x:Str)(p:Pos)(es:List Expr)(env:Env):starEach (.Name x p::es) env=(false,eval (.Name x p) env)::starEach es env:=rfl
theorem zg4(o:UnaryOp)(a:Expr)(p:Pos)(es:List Expr)(env:Env):starEach (.UnaryOp o a p::es) env=(false,eval (.UnaryOp o a p) env)::starEach es env:=rfl
inductive D where | non | bl (b:Bool) | int (i:Int) | str (x:Str) | tup (xs:List D) | lst (xs:List D) | dct | loc (l:Nat) | dlo (l:Nat) | fn (x:Str) | exc (x:Str) | scr (xs:List D)
abbrev Sto:=List (List D)
abbrev Ev:=List (Option D)
inductive R(α:Type) where | ok (a:α)(s:Sto) | ex (c:Str)(s:Sto) | no
def R.bind{α β:Type}(r:R α)(k:α->Sto->R β):R β:=match r with
 | .ok a s=>k a s | .ex c s=>.ex c s | .no=>.no
@[simp] theorem R.bind_ok {α β:Type}(a:α)(s:Sto)(k:α->Sto->R β):(R.ok a s).bind k=k a s:=id rfl
abbrev Rb:=@R.bind_ok
@[simp] theorem R.bind_ex {α β:Type}(c:Str)(s:Sto)(k:α->Sto->R β):(R.ex c s:R α).bind k=.ex c s:=id rfl
noncomputable def D.flat:D->Bool
 | .tup xs=>flats xs | .lst xs=>flats xs | .scr xs=>flats xs | .loc _=>false | .dlo _=>false | _=>true
where flats:List D->Bool
 | []=>true | x::xs=>x.flat&&flats xs
def zcI(C a:Addr):HO:=.ext λh=>∃o vs,h.get? a=some o/\o.cls=.ref C/\o.data=.fields vs
structure Gm where
 m:Str->Option Value
 K:W.Frag
abbrev gm(X:Cx):Gm:=⟨X.mg,X.K⟩
def IsL(H:Hp)(a:Addr):Prop:=∃vs,H a=some (.lst vs)
def IsC(H:Hp)(a:Addr):Prop:=(∃kvs,H a=some (.dT kvs))\/∃o kvs,H a=some (.frz o (.dT kvs))
theorem IsL.notC{H:Hp}{a:Addr}(h:IsL H a)(h':IsC H a):False:=by obtain⟨_,e⟩:=h;rcases h' with⟨_,e'⟩ | ⟨_,_,e'⟩<;>rw[e]at e'<;>cases e'
def z6v:Key->D
 | .inl i=>.int i | .inr x=>.str x
def z9B:V->Option D
 | .int i=>some (.int i) | .bl b=>some (.bl b) | _=>none
def zdL:List D->List (List Key×V)->Prop
 | [],kvs=>kvs=[] | d::ds,kvs=>∃k v x r,kvs=(k,v)::r/\z9B v=some x/\d=.tup [.tup (k.map z6v),x]/\zdL ds r
def KL(K:W.Frag)(a:Addr)(xs:List V):Prop:=∃(o:Obj)(its:Array Value)(n:Nat),K.lookup a=some o/\o.cls=.type "list"/\o.dict=none/\o.data=.seq its n/\its.size<=sizeLine/\yw xs its.toList
section
variable (mg:Gm)
mutual
noncomputable def Den(H:Hp)(Y:List Addr):D->V->Prop
 | .non,v=>v=.non | .bl b,v=>v=.bl b | .int i,v=>v=.int i | .str x,v=>v=.str x | .tup ds,v=>∃a vs,v=.ref a/\H a=some (.tup vs)/\zu H Y ds vs | .lst ds,v=>∃a o vs,v=.ref a/\H a=some (.frz o (.lst vs))/\zu H Y ds vs | .dct,v=>∃a,v=.ref a/\H a=some (.dK []) | .loc l,v=>∃a,v=.ref a/\Y[l]? = some a/\IsL H a | .dlo l,v=>∃a,v=.ref a/\Y[l]? = some a/\IsC H a | .fn x,v=>∃a,v=.ref a/\mg.m x=some (.ref a) | .exc x,v=>∃a C,v=.ref a/\mg.m x=some (.ref C)/\H a=some (zcI C a) | .scr ds,v=>∃a vs,v=.ref a/\((∃o,H a=some (.frz o (.lst vs)))\/KL mg.K a vs)/\zu H Y ds vs
noncomputable def zu(H:Hp)(Y:List Addr):List D->List V->Prop
 | [],vs=>vs=[] | d::ds,vs=>∃v r,vs=v::r/\Den H Y d v/\zu H Y ds r
end
def uX(H:Hp)(Y:List Addr)(xs:List D)(a:Addr):Prop:=(∃vs,H a=some (.lst vs)/\zu mg H Y xs vs)\/(∃kvs,H a=some (.dT kvs)/\zdL xs kvs)\/∃o kvs ys,H a=some (.frz o (.dT kvs))/\xs=.non::ys/\zdL ys kvs
structure Rep(H:Hp)(Y:List Addr)(s:Sto):Prop where
 len:Y.length=s.length
 nd:Y.Nodup
 cell:∀(l:Nat)(xs:List D),s[l]? = some xs->∃a,Y[l]? = some a/\uX mg H Y xs a
 flat:∀xs∈s,D.flat.flats xs=true
structure xx(H:Hp)(Y:List Addr)(H':Hp)(Y':List Addr)(s':Sto):Prop where
 rep:Rep mg H' Y' s'
 pre:Y <+: Y'
 keep:∀b o,H b=some o->b∉Y->H' b=some o
 new:∀a∈Y',a∉Y->H a=none
 mt:∀a∈Y,(IsL H a/\IsL H' a)\/(IsC H a/\IsC H' a/\∀o u,H a=some (.frz o u)->H' a=some (.frz o u))
end
section
variable {mg:Gm}{H H' H1 H2:Hp}{Y Y' Y1 Y2:List Addr}{s s' s1 s2:Sto}
theorem uX.kind{xs:List D}{a:Addr}(h:uX mg H Y xs a):IsL H a\/IsC H a:=h.imp (λ⟨vs,e,_⟩=>⟨vs,e⟩) λh=>h.imp (λ⟨k,e,_⟩=>⟨k,e⟩) λ⟨o,k,_,e,_⟩=>⟨o,k,e⟩
theorem Rep.mt(r:Rep mg H Y s):∀a∈Y,IsL H a\/IsC H a:=λa ha=>by
 obtain⟨l,hl,e⟩:=_F.mp ha;have hl':l<s.length:=by rw[<- r.len];exact hl
 obtain⟨b,e1,c⟩:=r.cell l s[l] (_f hl');rw[_f hl]at e1;have:Y[l]=b:=_K e1;rw[<- e,this];exact c.kind
theorem Rep.at_(r:Rep mg H Y s){l:Nat}{xs:List D}{a:Addr}(h:s[l]? = some xs)(ha:Y[l]? = some a)(k:IsL H a):∃vs,H a=some (.lst vs)/\zu mg H Y xs vs:=by
 obtain⟨b,e1,c⟩:=r.cell l xs h;rw[ha]at e1;cases e1;rcases c with c | ⟨kvs,e,_⟩ | ⟨o,kvs,_,e,_⟩;·exact c
 ·exact (k.notC (.inl ⟨kvs,e⟩)).elim
 ·exact (k.notC (.inr ⟨o,kvs,e⟩)).elim
theorem Rep.dic(r:Rep mg H Y s){l:Nat}{xs:List D}{a:Addr}(h:s[l]? = some xs)(ha:Y[l]? = some a)(k:IsC H a):(∃kvs,H a=some (.dT kvs)/\zdL xs kvs)\/∃o kvs ys,H a=some (.frz o (.dT kvs))/\xs=.non::ys/\zdL ys kvs:=by
 obtain⟨b,e1,c⟩:=r.cell l xs h;rw[ha]at e1;cases e1;rcases c with⟨vs,e,_⟩ | c;·exact (IsL.notC ⟨vs,e⟩ k).elim
 ·exact c
theorem xx.refl(r:Rep mg H Y s):xx mg H Y H Y s:=⟨r,_c5 _,λ_ _ h _=>h,λa h1 h2=>absurd h1 h2,λa ha=>(r.mt a ha).imp (λh=>⟨h,h⟩) λh=>⟨h,h,λ_ _ q=>q⟩⟩
theorem xx.trans(a:xx mg H Y H1 Y1 s1)(b:xx mg H1 Y1 H2 Y2 s2):xx mg H Y H2 Y2 s2:=by
 refine⟨b.rep,a.pre.trans b.pre,λc o h n=>?_,λc h1 h2=>?_,λc hc=>?_⟩
 ·refine b.keep c o (a.keep c o h n) λz=>?_;rw[a.new c z n]at h;cases h
 ·by_cases h3:c∈Y1;·exact a.new c h3 h2
  ·cases e:H c with
   | none=>rfl | some o=>rw[<- b.new c h1 h3,a.keep c o e h2]
 ·have hc1:c∈Y1:=a.pre.subset hc;rcases a.mt c hc with⟨k1,k2⟩ | ⟨k1,k2,k3⟩
  ·rcases b.mt c hc1 with⟨_,q⟩ | ⟨q,_,_⟩;·exact .inl ⟨k1,q⟩
   ·exact (k2.notC q).elim
  ·rcases b.mt c hc1 with⟨q,_⟩ | ⟨_,q,q3⟩;·exact (q.notC k2).elim
   ·exact .inr ⟨k1,q,λo u z=>q3 o u (k3 o u z)⟩
theorem xx.stay(stp:xx mg H Y H' Y' s'){b:Addr}{o:HO}(h:H b=some o)(hn:∀vs,o≠.lst vs)(hn2:∀kvs,o≠.dT kvs:=by intro vs z;cases z):H' b=some o:=by
 by_cases hb:b∈Y
 ·rcases stp.mt b hb with⟨⟨vs,e⟩,_⟩ | ⟨⟨vs,e⟩ | ⟨p,vs,e⟩,_,q⟩
  ·rw[h]at e;exact absurd (_K e) (hn vs)
  ·rw[h]at e;exact absurd (_K e) (hn2 vs)
  ·rw[h]at e;cases e;exact q _ _ h
 ·exact stp.keep b o h hb
mutual
theorem Den.mono(stp:xx mg H Y H' Y' s'):∀{d:D}{v:V},Den mg H Y d v->Den mg H' Y' d v
 | .non,_,h=>by simpa[Den] using h | .bl _,_,h=>by simpa[Den] using h | .int _,_,h=>by simpa[Den] using h | .str _,_,h=>by simpa[Den] using h | .tup ds,v,h=>by
  simp only[Den]at h ⊢;obtain⟨a,vs,e,h1,h2⟩:=h;exact⟨a,vs,e,stp.stay h1 (by intro vs z;cases z),zu.mono stp h2⟩ | .lst ds,v,h=>by
  simp only[Den]at h ⊢;obtain⟨a,o,vs,e,h1,h2⟩:=h;exact⟨a,o,vs,e,stp.stay h1 (by intro vs z;cases z),zu.mono stp h2⟩ | .dct,v,h=>by
  simp only[Den]at h ⊢;obtain⟨a,e,h1⟩:=h;exact⟨a,e,stp.stay h1 (by intro vs z;cases z)⟩ | .loc l,v,h=>by
  simp only[Den]at h ⊢;obtain⟨a,e,h1,k⟩:=h;obtain⟨t,ht⟩:=stp.pre;refine⟨a,e,?_,?_⟩
  ·rw[<- ht,_o (_c.mp h1).1];exact h1
  ·rcases stp.mt a (_C h1) with⟨_,q⟩ | ⟨q,_,_⟩;·exact q
   ·exact (k.notC q).elim | .dlo l,v,h=>by
  simp only[Den]at h ⊢;obtain⟨a,e,h1,k⟩:=h;obtain⟨t,ht⟩:=stp.pre;refine⟨a,e,?_,?_⟩
  ·rw[<- ht,_o (_c.mp h1).1];exact h1
  ·rcases stp.mt a (_C h1) with⟨q,_⟩ | ⟨_,q,_⟩;·exact (q.notC k).elim
   ·exact q | .fn _,_,h=>by simpa[Den] using h | .exc x,v,h=>by
  simp only[Den]at h ⊢;obtain⟨a,C,e,h1,h2⟩:=h;exact⟨a,C,e,h1,stp.stay h2 (by intro vs z;cases z)⟩ | .scr ds,v,h=>by
  simp only[Den]at h ⊢;obtain⟨a,vs,e,h1,h2⟩:=h;exact⟨a,vs,e,h1.imp (λ⟨o,h1⟩=>⟨o,stp.stay h1 (by intro vs z;cases z)⟩) id,zu.mono stp h2⟩
theorem zu.mono(stp:xx mg H Y H' Y' s'):∀{ds:List D}{vs:List V},zu mg H Y ds vs->zu mg H' Y' ds vs
 | [],_,h=>by simpa[zu] using h | d::ds,vs,h=>by
  simp only[zu]at h ⊢;obtain⟨v,r,e,h1,h2⟩:=h;exact⟨v,r,e,Den.mono stp h1,zu.mono stp h2⟩
end
theorem zu.length:∀{ds:List D}{vs:List V},zu mg H Y ds vs->vs.length=ds.length
 | [],_,h=>by simp only[zu]at h;rw[h];rfl | d::ds,vs,h=>by
  simp only[zu]at h;obtain⟨v,r,rfl,_,h2⟩:=h;simp[zu.length h2]
theorem zu.get:∀{ds:List D}{vs:List V}{i:Nat}{d:D},zu mg H Y ds vs->ds[i]? = some d->∃v,vs[i]? = some v/\Den mg H Y d v
 | [],_,_,_,_,e=>by simp at e | d::ds,vs,0,d',h,e=>by
  simp only[zu]at h;obtain⟨v,r,rfl,h1,_⟩:=h;simp at e;subst e;exact⟨v,by simp,h1⟩ | d::ds,vs,i+1,d',h,e=>by
  simp only[zu]at h;obtain⟨v,r,rfl,_,h2⟩:=h;obtain⟨u,h3,h4⟩:=zu.get (i:=i) h2 (by simpa using e);exact⟨u,by simpa using h3,h4⟩
theorem zu.append:∀{ds es:List D}{vs us:List V},zu mg H Y ds vs->zu mg H Y es us->zu mg H Y (ds++es) (vs++us)
 | [],_,_,_,h,h'=>by simp only[zu]at h;subst h;simpa using h' | d::ds,_,_,_,h,h'=>by
  simp only[zu]at h;obtain⟨v,r,rfl,h1,h2⟩:=h;simp only[_bz,zu];exact⟨v,_,rfl,h1,zu.append h2 h'⟩
theorem zu.nil:zu mg H Y [] []:=by simp[zu]
theorem zu.cons {d:D} {ds:List D} {v:V} {vs:List V} (h:Den mg H Y d v) (h':zu mg H Y ds vs):zu mg H Y (d::ds) (v::vs):=by
 simp only[zu];exact⟨v,vs,rfl,h,h'⟩
theorem zu.one{d:D}{v:V}(h:Den mg H Y d v):zu mg H Y [d] [v]:=.cons h .nil
theorem zu.take:∀{ds:List D}{vs:List V}(n:Nat),zu mg H Y ds vs->zu mg H Y (ds.take n) (vs.take n)
 | ds,vs,0,h=>by simp[zu] | [],vs,n+1,h=>by simp only[zu]at h;subst h;simp[zu] | d::ds,vs,n+1,h=>by
  simp only[zu]at h;obtain⟨v,r,rfl,h1,h2⟩:=h;simp only[List.take_succ_cons];exact .cons h1 (zu.take n h2)
theorem zu.drop:∀{ds:List D}{vs:List V}(n:Nat),zu mg H Y ds vs->zu mg H Y (ds.drop n) (vs.drop n)
 | ds,vs,0,h=>by simpa using h | [],vs,n+1,h=>by simp only[zu]at h;subst h;simp[zu] | d::ds,vs,n+1,h=>by
  simp only[zu]at h;obtain⟨v,r,rfl,h1,h2⟩:=h;simpa using zu.drop n h2
theorem zu.set:∀{ds:List D}{vs:List V}{d:D}{v:V}(n:Nat),zu mg H Y ds vs->Den mg H Y d v->zu mg H Y (ds.set n d) (vs.set n v)
 | [],vs,_,_,n,h,_=>by simp only[zu]at h;subst h;simp[zu] | d::ds,vs,_,_,0,h,h'=>by
  simp only[zu]at h;obtain⟨v,r,rfl,h1,h2⟩:=h;simpa using zu.cons h' h2 | d::ds,vs,_,_,n+1,h,h'=>by
  simp only[zu]at h;obtain⟨v,r,rfl,h1,h2⟩:=h;simpa using zu.cons h1 (zu.set n h2 h')
mutual
theorem Den.flatten(k:∀b o,H b=some o->(∀vs,o≠.lst vs)->(∀kvs,o≠.dT kvs)->H' b=some o):∀{d:D}{v:V},d.flat=true->Den mg H Y d v->Den mg H' Y' d v
 | .non,_,_,h=>by simpa[Den] using h | .bl _,_,_,h=>by simpa[Den] using h | .int _,_,_,h=>by simpa[Den] using h | .str _,_,_,h=>by simpa[Den] using h | .tup ds,v,f,h=>by
  simp only[Den]at h ⊢;obtain⟨a,vs,e,h1,h2⟩:=h;exact⟨a,vs,e,k a _ h1 (by intro vs z;cases z) (by intro vs z;cases z),zu.flatten k (by simpa[D.flat] using f) h2⟩ | .lst ds,v,f,h=>by
  simp only[Den]at h ⊢;obtain⟨a,o,vs,e,h1,h2⟩:=h;exact⟨a,o,vs,e,k a _ h1 (by intro vs z;cases z) (by intro vs z;cases z),zu.flatten k (by simpa[D.flat] using f) h2⟩ | .dct,v,_,h=>by
  simp only[Den]at h ⊢;obtain⟨a,e,h1⟩:=h;exact⟨a,e,k a _ h1 (by intro vs z;cases z) (by intro vs z;cases z)⟩ | .loc l,v,f,h=>by simp[D.flat]at f | .dlo l,v,f,h=>by simp[D.flat]at f | .fn _,_,_,h=>by simpa[Den] using h | .exc x,v,_,h=>by
  simp only[Den]at h ⊢;obtain⟨a,C,e,h1,h2⟩:=h;exact⟨a,C,e,h1,k a _ h2 (by intro vs z;cases z) (by intro vs z;cases z)⟩ | .scr ds,v,f,h=>by
  simp only[Den]at h ⊢;obtain⟨a,vs,e,h1,h2⟩:=h;exact⟨a,vs,e,h1.imp (λ⟨o,h1⟩=>⟨o,k a _ h1 (by intro vs z;cases z) (by intro vs z;cases z)⟩) id,zu.flatten k (by simpa[D.flat] using f) h2⟩
theorem zu.flatten(k:∀b o,H b=some o->(∀vs,o≠.lst vs)->(∀kvs,o≠.dT kvs)->H' b=some o):∀{ds:List D}{vs:List V},D.flat.flats ds=true->zu mg H Y ds vs->zu mg H' Y' ds vs
 | [],_,_,h=>by simpa[zu] using h | d::ds,vs,f,h=>by
  simp only[zu]at h ⊢;simp only[D.flat.flats,_z]at f;obtain⟨v,r,e,h1,h2⟩:=h;exact⟨v,r,e,Den.flatten k f.1 h1,zu.flatten k f.2 h2⟩
end
end
def okR{α β:Type}(mg:Gm)(E:XK)(H:Hp)(Y:List Addr)(Dn:Hp->List Addr->α->β->Prop)(r:R α)(Q:β->Hp->Prop):Prop:=match r with
 | .ok a s'=>∀b H' Y',xx mg H Y H' Y' s'->Dn H' Y' a b->Q b H' | .ex c s'=>∀H' Y' C,xx mg H Y H' Y' s'->mg.m c=some (.ref C)->E (.ref C) none H' | .no=>False
section
variable {α β α2 β2:Type}{mg:Gm}{E:XK}{H H' H1 H2:Hp}{Y Y' Y1 Y2:List Addr}{s s' s1 s2:Sto}{Dn:Hp->List Addr->α->β->Prop}{Dn2:Hp->List Addr->α2->β2->Prop}
theorem okR.rebase{r:R α}{Q:β->Hp->Prop}(h:okR mg E H Y Dn r Q)(stp:xx mg H Y H1 Y1 s1):okR mg E H1 Y1 Dn r Q:=by cases r with
 | ok a s'=>exact λb H' Y' stp'=>h b H' Y' (stp.trans stp') | ex c s'=>exact λH' Y' C stp'=>h H' Y' C (stp.trans stp') | no=>exact h
theorem okR.bind{r:R α}{k:α->Sto->R α2}{Q:β2->Hp->Prop}(h:okR mg E H Y Dn2 (r.bind k) Q): okR mg E H Y Dn r (λb H1=>∃Y1 s1 a,xx mg H Y H1 Y1 s1/\Dn H1 Y1 a b/\okR mg E H1 Y1 Dn2 (k a s1) Q):=by cases r with
 | ok a s'=>exact λb H' Y' stp dn=>⟨Y',s',a,stp,dn,okR.rebase h stp⟩ | ex c s'=>exact h | no=>exact h
theorem okR.imp{r:R α}{Q Q':β->Hp->Prop}(h:okR mg E H Y Dn r Q)(i:∀b H',Q b H'->Q' b H'):okR mg E H Y Dn r Q':=by cases r with
 | ok a s'=>exact λb H' Y' stp dn=>i b H' (h b H' Y' stp dn) | ex c s'=>exact h | no=>exact h
theorem okR.here{a:α}{Q:β->Hp->Prop}{b:β}(h:okR mg E H Y Dn (.ok a s) Q)(r:Rep mg H Y s)(d:Dn H Y a b):Q b H:=h b H Y (.refl r) d
end
structure ua(mg:Gm)(H:Hp)(Y:List Addr)(Z:Ev)(O:L2.St):Prop where
 len:Z.length=O.length
 at_:∀(i:Nat)(d:D),Z[i]? = some (some d)->∃v,O[i]? = some (some v)/\Den mg H Y d v
theorem ua.mono{mg:Gm}{H H':Hp}{Y Y':List Addr}{s':Sto}{Z:Ev}{O:L2.St}(e:ua mg H Y Z O)(stp:xx mg H Y H' Y' s'):ua mg H' Y' Z O:= ⟨e.len,λi d h=>let ⟨v,h1,h2⟩:=e.at_ i d h;⟨v,h1,h2.mono stp⟩⟩
theorem ua.set{mg:Gm}{H:Hp}{Y:List Addr}{Z:Ev}{O:L2.St}{d:D}{v:V}(e:ua mg H Y Z O)(h:Den mg H Y d v)(i:Nat):ua mg H Y (Z.set i (some d)) (O.set i (some v)):=by
 refine⟨by simp[e.len],λj d' hj=>?_⟩;by_cases hij:i=j
 ·subst hij;have hi:i<Z.length:=by
   have:=(_c.mp hj).1;simpa using this
  rw[_L hi]at hj;cases hj;exact⟨v,by rw[_L (by rw[<- e.len];exact hi)],h⟩
 ·rw[_B hij]at hj ⊢;exact e.at_ j d' hj
abbrev FE:=Ev->Sto->R D
abbrev FT:=Ev->Sto->R Bool
abbrev FA:=Ev->Sto->R (List D)
inductive Fl where | nx (Z:Ev) | rt (d:D) | bk (Z:Ev) | ct (Z:Ev)
inductive FlV where | nx (O:L2.St) | rt (v:V) | bk (O:L2.St) | ct (O:L2.St)
abbrev FS:=Ev->Sto->R Fl
def FlD(mg:Gm)(H:Hp)(Y:List Addr):Fl->FlV->Prop
 | .nx Z,.nx O=>ua mg H Y Z O | .rt d,.rt v=>Den mg H Y d v | .bk Z,.bk O=>ua mg H Y Z O | .ct Z,.ct O=>ua mg H Y Z O | _,_=>False
def z3k(D:zfP):FlV->Hp->Prop
 | .nx O,H=>D.nx O H | .rt v,H=>D.rt v H | .bk O,H=>D.bk O H | .ct O,H=>D.ct O H
def bD(_:Hp)(_:List Addr)(a b:Bool):Prop:=a=b
def tE(mg:Gm)(E:XK)(f:FE):TE:=λO H Q=>∃Y Z s,Rep mg H Y s/\ua mg H Y Z O/\okR mg E H Y (Den mg) (f Z s) Q
def tT(mg:Gm)(E:XK)(f:FT):TT:=λO H Q=>∃Y Z s,Rep mg H Y s/\ua mg H Y Z O/\okR mg E H Y bD (f Z s) Q
def tA(mg:Gm)(E:XK)(f:FA):TA:=λO H Q=>∃Y Z s,Rep mg H Y s/\ua mg H Y Z O/\okR mg E H Y (zu mg) (f Z s) Q
def tS(mg:Gm)(E:XK)(f:FS):TS:=λD O H=>∃Y Z s,Rep mg H Y s/\ua mg H Y Z O/\okR mg E H Y (FlD mg) (f Z s) (z3k D)
def RE(X:Cx)(E:XK)(e:Expr)(f:FE):Prop:=PE X e (tE (gm X) E f)
def RT(X:Cx)(E:XK)(e:Expr)(f:FT):Prop:=PT X e (tT (gm X) E f)
def RA(X:Cx)(E:XK)(es:List Expr)(f:FA):Prop:=PA X es (tA (gm X) E f)
def RS(X:Cx)(E:XK)(st:Stmt)(f:FS):Prop:=PS X st (tS (gm X) E f)
def RSs(X:Cx)(E:XK)(st:List Stmt)(f:FS):Prop:=PSs X st (tS (gm X) E f)
section
variable {X:Cx}{E:XK}{e a b c:Expr}{es:List Expr}{pos:Pos}
theorem zL{t t':TE}(h:PE X e t)(i:∀O H Q,t' O H Q->t O H Q):PE X e t':=λpins s O H Q I q=>h pins s O H Q I (i O H Q q)
theorem z6x{t t':TT}(h:PT X e t)(i:∀O H Q,t' O H Q->t O H Q):PT X e t':=λpins s O H Q I q=>h pins s O H Q I (i O H Q q)
theorem ze8{t t':TA}(h:PA X es t)(i:∀O H Q,t' O H Q->t O H Q):PA X es t':=λpos pins s O H Q I q=>h pos pins s O H Q I (i O H Q q)
theorem vA{st:Stmt}{t t':TS}(h:PS X st t)(i:∀D O H,t' D O H->t D O H):PS X st t':=λpins s O H D I q=>h pins s O H D I (i D O H q)
theorem zb9{st:List Stmt}{t t':TS}(h:PSs X st t)(i:∀D O H,t' D O H->t D O H):PSs X st t':=λpins s O H D I q=>h pins s O H D I (i D O H q)
theorem zO{α β:Type}{Dn:Hp->List Addr->α->β->Prop}{mg:Gm}{f:FE}{k:Ev->D->Sto->R α}{O:L2.St}{H:Hp}{Q:β->Hp->Prop}{Y:List Addr}{Z:Ev}{s:Sto}(r:Rep mg H Y s)(en:ua mg H Y Z O) (h:okR mg E H Y Dn ((f Z s).bind (k Z)) Q)(K:V->Hp->Prop) (hK:∀v H1 Y1 s1 d,Rep mg H1 Y1 s1->ua mg H1 Y1 Z O->Den mg H1 Y1 d v->xx mg H Y H1 Y1 s1->okR mg E H1 Y1 Dn (k Z d s1) Q->K v H1):tE mg E f O H K:= ⟨Y,Z,s,r,en,(okR.bind (Dn:=Den mg) h).imp λv H1 ⟨Y1,s1,d,stp,dn,q⟩=>hK v H1 Y1 s1 d stp.rep (en.mono stp) dn stp q⟩
theorem z2g{α β:Type}{Dn:Hp->List Addr->α->β->Prop}{mg:Gm}{f:FT}{k:Ev->Bool->Sto->R α}{O:L2.St}{H:Hp}{Q:β->Hp->Prop}{Y:List Addr}{Z:Ev}{s:Sto}(r:Rep mg H Y s)(en:ua mg H Y Z O) (h:okR mg E H Y Dn ((f Z s).bind (k Z)) Q)(K:Bool->Hp->Prop) (hK:∀v H1 Y1 s1,Rep mg H1 Y1 s1->ua mg H1 Y1 Z O->xx mg H Y H1 Y1 s1->okR mg E H1 Y1 Dn (k Z v s1) Q->K v H1):tT mg E f O H K:= ⟨Y,Z,s,r,en,(okR.bind (Dn:=bD) h).imp λv H1 ⟨Y1,s1,d,stp,dn,q⟩=>hK v H1 Y1 s1 stp.rep (en.mono stp) stp (by cases (show d=v from dn);exact q)⟩
theorem vE{α β:Type}{Dn:Hp->List Addr->α->β->Prop}{mg:Gm}{f:FA}{k:Ev->List D->Sto->R α}{O:L2.St}{H:Hp}{Q:β->Hp->Prop}{Y:List Addr}{Z:Ev}{s:Sto}(r:Rep mg H Y s)(en:ua mg H Y Z O) (h:okR mg E H Y Dn ((f Z s).bind (k Z)) Q)(K:List V->Hp->Prop) (hK:∀v H1 Y1 s1 d,Rep mg H1 Y1 s1->ua mg H1 Y1 Z O->zu mg H1 Y1 d v->xx mg H Y H1 Y1 s1->okR mg E H1 Y1 Dn (k Z d s1) Q->K v H1):tA mg E f O H K:= ⟨Y,Z,s,r,en,(okR.bind (Dn:=zu mg) h).imp λv H1 ⟨Y1,s1,d,stp,dn,q⟩=>hK v H1 Y1 s1 d stp.rep (en.mono stp) dn stp q⟩
def zc(i:Nat):FE:=λZ s=>match Z[i]? with | some (some d)=>.ok d s | _=>.no
theorem zb(i:Nat){x:Str}(hN:X.N[i]? = some x:=by rfl)(hv:Vis X.env.scope x:=by first | exact Or.inl rfl | exact Or.inr (Or.inl rfl) | exact Or.inr (Or.inr rfl))(hd:(x==("__debug__":Str))=false:=by decide) (hcd:(x==("__classdict__":Str))=false:=by decide):RE X E (.Name x pos) (zc i):= zL (zaM hN hv hd hcd) λO H Q ⟨Y,Z,s,r,en,h⟩=>by
  unfold zc at h;split at h
  ·rename_i d hd;obtain⟨v,h1,h2⟩:=en.at_ i d hd;exact⟨v,h1,h.here r h2⟩
  ·exact h.elim
def eC(d:D):FE:=λ_ s=>.ok d s
theorem zj{i:Int}{j:Nat}:RE X E (.Constant (.int i) j pos) (eC (.int i)):=zL zeE λO H Q ⟨Y,Z,s,r,en,h⟩=>okR.here (b:=V.int i) h r (by simp[Den])
theorem z9w{i:Bool}{j:Nat}:RE X E (.Constant (.bool i) j pos) (eC (.bl i)):=zL zkA λO H Q ⟨Y,Z,s,r,en,h⟩=>okR.here (b:=V.bl i) h r (by simp[Den])
theorem z7v{j:Nat}:RE X E (.Constant .none j pos) (eC .non):=zL ziu λO H Q ⟨Y,Z,s,r,en,h⟩=>okR.here (b:=V.non) h r (by simp[Den])
theorem yt{i:Str}{j:Nat}:RE X E (.Constant (.str i) j pos) (eC (.str i)):=zL zei λO H Q ⟨Y,Z,s,r,en,h⟩=>okR.here (b:=V.str i) h r (by simp[Den])
theorem ziw{x:Str}{i:Int}{t:Tok}(hg:Gl X x)(hm:X.mg x=some (.int i t))(hd:(x==("__debug__":Str))=false:=by decide):RE X E (.Name x pos) (eC (.int i)):= zL (z2z hg hm (show yr (.int i) (.int i t) from⟨t,rfl⟩) hd) λO H Q ⟨Y,Z,s,r,en,h⟩=>okR.here (b:=V.int i) h r (by simp[Den])
def OpF(X:Cx)(E:XK)(r:R2)(op:D->D->Sto->R D):Prop:= ∀H Y s d1 d2 v1 v2 (Q:VK),Rep (gm X) H Y s->Den (gm X) H Y d1 v1->Den (gm X) H Y d2 v2->okR (gm X) E H Y (Den (gm X)) (op d1 d2 s) Q->r v1 v2 H Q
def eOp(op:D->D->Sto->R D)(fa fb:FE):FE:=λZ s=>(fa Z s).bind λx s1=>(fb Z s1).bind λy s2=>op x y s2
theorem z8B{r:R2}{op:D->D->Sto->R D}{fa fb:FE}(ho:OpF X E r op){O:L2.St}{H:Hp}{Q:VK}(h:tE (gm X) E (eOp op fa fb) O H Q):tOp r (tE (gm X) E fa) (tE (gm X) E fb) O H Q:=by
 obtain⟨Y,Z,s,r',en,h⟩:=h;refine zO (k:=λZ x s1=>(fb Z s1).bind λy s2=>op x y s2) r' en h _ λv H1 Y1 s1 d r1 en1 dn stp h1=>?_;refine zO (k:=λZ y s2=>op d y s2) r1 en1 h1 _ λv2 H2 Y2 s2 d2 r2 en2 dn2 St2 h2=>?_;exact ho H2 Y2 s2 d d2 v v2 Q r2 (dn.mono St2) dn2 h2
theorem zlC{op:Operator}{r:R2}{fo:D->D->Sto->R D}{fa fb:FE}(ho:OpR X (binaryOp op) r/\OpF X E r fo)(ha:RE X E a fa)(hb:RE X E b fb):RE X E (.BinOp a op b pos) (eOp fo fa fb):= zL (zjE ho.1 ha hb) λO H Q h=>z8B ho.2 h
theorem zjF{op:CmpOp}{r:R2}{fo:D->D->Sto->R D}{fa fb:FE}(ho:OpR X (compareOp op) r/\OpF X E r fo)(ha:RE X E a fa)(hb:RE X E b fb)(hm:behindInMarks op b=false):RE X E (.Compare a [op] [b] pos) (eOp fo fa fb):= zL (zbw ho.1 ha hb hm) λO H Q h=>z8B ho.2 h
end
end Dd
namespace L2
theorem Inv.freeze {X:Cx} {pins:List (Addr×Obj)} {O:L2.St} {H:Hp} {s:Shared} {a:Addr} {u:HO} {o:Obj} (I:Inv X pins O H s) (h:H a=some u) (e:s.heap.get? a=some o) (hu:∀xs,u≠.tup xs) (hf:∀o v,u≠.frz o v) (ht:∀ps,u≠.tbl ps) (ho:∀y,u≠.own y): Inv X pins O (upd H a (.frz o u)) s:=by
 have ne:∀{b:Addr} {v:HO},H b=some v->v≠u->b≠a:=λ{b v} hb hv z=>by subst z;rw[h]at hb;exact hv (_K hb).symm
 have stay:∀b v,yM X.prog X.w H s.heap b v->yM X.prog X.w (upd H a (.frz o u)) s.heap b v:=λb v q=> q.stay (λ_ _ _ q=>q) (λc q=>by rw[zE (ne q (λz=>ho b z.symm))];exact q) λc xs q=>by rw[zE (ne q (λz=>hu xs z.symm))];exact q
 have hok:HOk X.prog X.w (upd H a (.frz o u)) s.heap:=λb v q=>by
  by_cases hb:b=a
  ·subst hb;rw[zN]at q;cases q;exact⟨e,stay b u (I.hok b u h)⟩
  ·rw[zE hb]at q;exact stay b v (I.hok b v q)
 exact I.step (h':=s.heap) (g':=s.gens) (d':=s.drawn) (t':=s.toks) (ch:=[]) (λb hb=>absurd hb (by simp)) (λb o _ _ _ e _=>e) (λb o _ _ _ e _=>⟨o.slots,e⟩) (λb v _ _ n=>by rw[zE (λz=>by subst z;rw[h]at n;cases n)];exact n) (λb o _ e=>⟨o,e⟩) (λb xs q=>by rw[zE (ne q (λz=>hu xs z.symm))];exact q) (λb o' v q=>by rw[zE (ne q (λz=>hf o' v z.symm))];exact q) (λb ps q=>⟨#[],by rw[zE (ne q (λz=>ht ps z.symm)),q];simp⟩) (λ_ q=>q) hok I.bare
def z9O(Q:VK):VK:=λv H=>∃a xs,v=.ref a/\H a=some (.lst xs)/\∀o,Q v (upd H a (.frz o (.lst xs)))
theorem EP.freeze{X:Cx}{pins:List (Addr×Obj)}{O:L2.St}{Q:VK}{u:Value}{s:Shared}(h:EP X pins O (z9O Q) u s):EP X pins O Q u s:=by
 obtain⟨v,H',I,r,a,xs,rfl,ha,q⟩:=h;obtain⟨its,n,rv,e,_⟩:=I.lst ha;exact⟨_,_,I.freeze ha e (by intro _ z;cases z) (by intro _ _ z;cases z) (by intro _ z;cases z) (by intro _ z;cases z),r,q _⟩
theorem OpR.freeze{X:Cx}{f:Value->Value->Sem Value}{r:R2}(h:OpR X f r):OpR X f (λx y H Q=>r x y H (z9O Q)):=λpins s O H x y v u Q I rx ry q=>thn (h pins s O H x y v u _ I rx ry q) λ_ _ z=>z.freeze
theorem xF.freeze{X:Cx}{f:Value}{r:List V->Hp->VK->Prop}(h:xF X f r):xF X f (λxs H Q=>r xs H (z9O Q)):=λpins s O H xs us Q I rs q=>thn (h pins s O H xs us _ I rs q) λ_ _ z=>z.freeze
theorem PE.freeze{X:Cx}{e:Expr}{t:TE}(h:PE X e t):PE X e (λO H Q=>t O H (z9O Q)):=λpins s O H Q I q=>thn (h pins s O H _ I q) λ_ _ z=>z.freeze
theorem SlR.freeze{X:Cx}{r:V->Option Int->Option Int->Hp->VK->Prop}(h:SlR X r):SlR X (λx lo hi H Q=>r x lo hi H (z9O Q)):=λpins s O H x v vl vu lo hi sl Q I rx hs pl pu q=>by
 obtain⟨T,id,h1,h2,h3⟩:=h pins s O H x v vl vu lo hi sl _ I rx hs pl pu q;exact⟨T,id,h1,h2,thn h3 λ_ _ z=>z.freeze⟩
section
variable {X:Cx}
theorem z9W:OpR X (binaryOp .Add) (λx y H Q=>∃l b xs zs,x=.ref l/\y=.ref b/\Rd H l (.lst xs)/\Rd H b (.lst zs)/\xs.length+zs.length<=sizeLine/\∀p,H p=none->Q (.ref p) (upd H p (.lst (xs++zs)))):=by
 intro pins s O H x y v u Q I rx ry h;obtain⟨l,b,xs,zs,rfl,rfl,hH,hB,hz,q⟩:=h;cases rx;cases ry;obtain⟨z,its,n,r,e⟩:=hH.ok I.hok;obtain⟨z2,its2,n2,r2,e2⟩:=hB.ok I.hok;have hl:=r.length;have hl2:=r2.length;refine PySem.P.add_list e e2 ?_ (by rw[_k,_k];omega);have ea:its.toArray++its2.toArray=(its++its2).toArray:=by simp
 rw[ea];exact⟨.ref _,_,I.lnew (t':=s.toks) (r.append r2) (by rw[_M];omega),rfl,q _ I.fresh⟩
end
section
variable {X:Cx}
theorem zdc:OpR X (binaryOp .Add) (λx y H Q=>∃a b ys,x=.ref a/\y=.ref b/\SqT X.K H a []/\SqT X.K H b ys/\Q (.ref b) H):=by
 intro pins s O H x y v u Q I rx ry h;obtain⟨a,b,ys,rfl,rfl,ha,hb,q⟩:=h;cases rx;cases ry;obtain⟨its,r1,p1,_⟩:=I.tuple ha;obtain⟨its2,r2,p2,_⟩:=I.tuple hb;cases r1;obtain⟨⟨cls,dd,data,sl⟩,ho,hc,n,hd⟩:=id p1;obtain⟨⟨cls2,dd2,data2,sl2⟩,ho2,hc2,n2,hd2⟩:=id p2;simp only at hc hd hc2 hd2;subst hc hd hc2 hd2;exact concat_meets ⟨_,ho,rfl⟩ ⟨_,ho2,rfl⟩ _c0 seq_tuple_add _bV _bQ (_bF _ _) (tuple_addW0 a b _ _ n n2 dd dd2 sl sl2 (by simp)) ⟨ho,ho2,⟨.ref b,H,I,rfl,q⟩⟩
theorem zgv:SlR X (λx lo hi H Q=>∃a xs,x=.ref a/\SqT X.K H a xs/\(HT.sIx xs.length 0 lo=0/\HT.sIx xs.length xs.length hi=xs.length)/\Q (.ref a) H):=by
 intro pins s O H x v vl vu lo hi sl Q I rx hs pl pu h;obtain⟨a,xs,rfl,hx,hw,q⟩:=h;cases rx;obtain⟨its,r,ht,hz⟩:=I.tuple hx;have hlen:its.toArray.size=xs.length:=by rw[_k];exact r.length.symm
 refine⟨"tuple",_,_ab.lookup,ht.typeIs,?_⟩;obtain⟨os,hos,hcs,hds⟩:=id hs;have hTs:s.TypeIs (.ref sl) "slice":=⟨os,hos,hcs⟩;obtain⟨oa,hoa,hca,na,hda⟩:=id ht;unfold getItem;try with_reducible refine _aG ?_
 first | refine _a (_b ?_) | skip
 refine _a (wpAny_sequenceKey ht.typeIs (by decide) ?_);refine _a (_P (name:=Str.ofString "__getitem__") ht.typeIs _ab (_T _ab ht.typeIs entry_tuple_getitem ?_ (args_tuple_getitem _ _)));show wpAny _ _ (Builtin.Tuple.tupleItemsOf (.ref a) >>= _) _ _ s;refine _a (tupleItemsOf_ ht ?_);refine _a (wpAny_typeOf hTs ?_);rw[_e (by decide)];refine _a (HT.qF hs pl pu ?_);rw[hlen,hw.1,hw.2];show wpAny _ _ (if (((0:Nat):Int)==0&&(1:Int)==1&&(xs.length-0)==xs.length)=true then _ else _) _ _ s;rw[_e (by simp)];have hTa:s.TypeIs (.ref a) "tuple":=ht.typeIs;have fin:EP X pins O Q (.ref a) s:=⟨.ref a,H,I,rfl,q⟩;unfold Builtin.Tuple.tupleIsExact;refine _a (_a (wpAny_typeOf hTa (_b ?_)));rw[_e (by decide)];exact _a (_a2 (_b ⟨_,rfl,_b fin⟩))
end
end L2
namespace Dd
open L2
section
variable {mg:Gm}{H H' H1 H2:Hp}{Y Y' Y1 Y2:List Addr}{s s' s1 s2:Sto}
structure Kp(H H':Hp):Prop where
 k:∀b o,H b=some o->(∀vs,o≠.lst vs)->(∀kvs,o≠.dT kvs)->H' b=some o
 l:∀a,IsL H a->IsL H' a
 c:∀a,IsC H a->IsC H' a
mutual
theorem Den.gen(k:Kp H H')(hi:∀(l:Nat) a,Y[l]? = some a->Y'[l]? = some a):∀{d:D}{v:V},Den mg H Y d v->Den mg H' Y' d v
 | .non,_,h=>by simpa[Den] using h | .bl _,_,h=>by simpa[Den] using h | .int _,_,h=>by simpa[Den] using h | .str _,_,h=>by simpa[Den] using h | .tup ds,v,h=>by
  simp only[Den]at h ⊢;obtain⟨a,vs,e,h1,h2⟩:=h;exact⟨a,vs,e,k.k a _ h1 (by intro vs z;cases z) (by intro vs z;cases z),zu.gen k hi h2⟩ | .lst ds,v,h=>by
  simp only[Den]at h ⊢;obtain⟨a,o,vs,e,h1,h2⟩:=h;exact⟨a,o,vs,e,k.k a _ h1 (by intro vs z;cases z) (by intro vs z;cases z),zu.gen k hi h2⟩ | .dct,v,h=>by
  simp only[Den]at h ⊢;obtain⟨a,e,h1⟩:=h;exact⟨a,e,k.k a _ h1 (by intro vs z;cases z) (by intro vs z;cases z)⟩ | .loc l,v,h=>by
  simp only[Den]at h ⊢;obtain⟨a,e,h1,q⟩:=h;exact⟨a,e,hi l a h1,k.l a q⟩ | .dlo l,v,h=>by
  simp only[Den]at h ⊢;obtain⟨a,e,h1,q⟩:=h;exact⟨a,e,hi l a h1,k.c a q⟩ | .fn _,_,h=>by simpa[Den] using h | .exc x,v,h=>by
  simp only[Den]at h ⊢;obtain⟨a,C,e,h1,h2⟩:=h;exact⟨a,C,e,h1,k.k a _ h2 (by intro vs z;cases z) (by intro vs z;cases z)⟩ | .scr ds,v,h=>by
  simp only[Den]at h ⊢;obtain⟨a,vs,e,h1,h2⟩:=h;exact⟨a,vs,e,h1.imp (λ⟨o,h1⟩=>⟨o,k.k a _ h1 (by intro vs z;cases z) (by intro vs z;cases z)⟩) id,zu.gen k hi h2⟩
theorem zu.gen(k:Kp H H')(hi:∀(l:Nat) a,Y[l]? = some a->Y'[l]? = some a):∀{ds:List D}{vs:List V},zu mg H Y ds vs->zu mg H' Y' ds vs
 | [],_,h=>by simpa[zu] using h | d::ds,vs,h=>by
  simp only[zu]at h ⊢;obtain⟨v,r,e,h1,h2⟩:=h;exact⟨v,r,e,Den.gen k hi h1,zu.gen k hi h2⟩
end
theorem jn{p:Addr}{o:HO}(hp:H p=none):∀b u,H b=some u->upd H p o b=some u:=λb u h=>by rw[zE (yD h hp)];exact h
theorem Kp.new{p:Addr}{o:HO}(hp:H p=none):Kp H (upd H p o):=⟨λb u h _ _=>jn hp b u h,λa ⟨vs,e⟩=>⟨vs,jn hp a _ e⟩,λa h=>h.imp (λ⟨vs,e⟩=>⟨vs,jn hp a _ e⟩) λ⟨o,vs,e⟩=>⟨o,vs,jn hp a _ e⟩⟩
theorem Kp.putL{a:Addr}{vs:List V}(h:IsL H a):Kp H (upd H a (.lst vs)):=by
 obtain⟨ws,e⟩:=h;have ne:∀{b u},H b=some u->(∀vs,u≠.lst vs)->b≠a:=λ{b u} q n z=>by subst z;rw[e]at q;exact n ws (_K q).symm
 refine⟨λb o q n1 n2=>by rw[zE (ne q n1)];exact q,λb ⟨us,q⟩=>?_,λb h=>?_⟩
 ·by_cases z:b=a;·subst z;exact⟨vs,zN⟩
  ·exact⟨us,by rw[zE z];exact q⟩
 ·rcases h with⟨us,q⟩ | ⟨o,us,q⟩;·exact .inl ⟨us,by rw[zE (ne q (by intro _ z;cases z))];exact q⟩
  ·exact .inr ⟨o,us,by rw[zE (ne q (by intro _ z;cases z))];exact q⟩
theorem Kp.putC{a:Addr}{u:HO}(h:∃ws,H a=some (.dT ws))(hu:(∃kvs,u=.dT kvs)\/∃o kvs,u=.frz o (.dT kvs)):Kp H (upd H a u):=by
 obtain⟨ws,e⟩:=h;have ne:∀{b u},H b=some u->(∀vs,u≠.dT vs)->b≠a:=λ{b u} q n z=>by subst z;rw[e]at q;exact n ws (_K q).symm
 refine⟨λb o q n1 n2=>by rw[zE (ne q n2)];exact q,λb ⟨us,q⟩=>⟨us,by rw[zE (ne q (by intro _ z;cases z))];exact q⟩,λb h=>?_⟩;by_cases z:b=a
 ·subst z;rcases hu with⟨k,rfl⟩ | ⟨o,k,rfl⟩;·exact .inl ⟨k,zN⟩
  ·exact .inr ⟨o,k,zN⟩
 ·rcases h with⟨us,q⟩ | ⟨o,us,q⟩;·exact .inl ⟨us,by rw[zE z];exact q⟩
  ·exact .inr ⟨o,us,by rw[zE z];exact q⟩
theorem uX.gen{xs:List D}{a:Addr}(k:Kp H H')(hi:∀(l:Nat) a,Y[l]? = some a->Y'[l]? = some a)(e:H' a=H a)(h:uX mg H Y xs a):uX mg H' Y' xs a:=by
 rcases h with⟨vs,h1,h2⟩ | ⟨kvs,h1,h2⟩ | ⟨o,kvs,ys,h1,h2⟩;·exact .inl ⟨vs,e.trans h1,h2.gen k hi⟩
 ·exact .inr (.inl ⟨kvs,e.trans h1,h2⟩)
 ·exact .inr (.inr ⟨o,kvs,ys,e.trans h1,h2⟩)
theorem uX.ne{xs:List D}{a p:Addr}(h:uX mg H Y xs a)(hp:H p=none):a≠p:=by
 rintro rfl;rcases h.kind with⟨_,e⟩ | ⟨_,e⟩ | ⟨_,_,e⟩<;>rw[hp]at e<;>cases e
theorem Rep.notin{p:Addr}(r:Rep mg H Y s)(hp:H p=none):p∉Y:=λz=>by rcases r.mt p z with⟨_,e⟩ | ⟨_,e⟩ | ⟨_,_,e⟩<;>rw[hp]at e<;>cases e
theorem xx.lay{p:Addr}{o:HO}(r:Rep mg H Y s)(hp:H p=none)(ho:∀vs,o≠.lst vs):xx mg H Y (upd H p o) Y s:= ⟨⟨r.len,r.nd,λl xs h=>let ⟨a,h1,h2⟩:=r.cell l xs h;⟨a,h1,h2.gen (.new hp) (λ_ _ q=>q) (zE (h2.ne hp))⟩,r.flat⟩,_c5 _,λb u h _=>jn hp b u h,λa h1 h2=>absurd h1 h2,λa ha=>(r.mt a ha).imp (λh=>⟨h,(Kp.new hp).l a h⟩) λh=>⟨h,(Kp.new hp).c a h,λ_ _ e=>jn hp a _ e⟩⟩
theorem xx.layC{p:Addr}{o:HO}{xs:List D}(r:Rep mg H Y s)(hp:H p=none)(hc:uX mg (upd H p o) (Y++[p]) xs p)(hf:D.flat.flats xs=true):xx mg H Y (upd H p o) (Y++[p]) (s++[xs]):=by
 have pn:p∉Y:=r.notin hp;have hi:∀(l:Nat) a,Y[l]? = some a->(Y++[p])[l]? = some a:=λl a h=>by rw[_o (_c.mp h).1];exact h
 refine⟨⟨by simp[r.len],?_,λl ys h=>?_,λys h=>?_⟩,List.prefix_append _ _,λb u h _=>jn hp b u h,λa h1 h2=>?_,λa ha=>(r.mt a ha).imp (λh=>⟨h,(Kp.new hp).l a h⟩) λh=>⟨h,(Kp.new hp).c a h,λ_ _ e=>jn hp a _ e⟩⟩
 ·rw[_cP];exact⟨r.nd,by simp,λa ha b hb=>by
   have:b=p:=by simpa using hb
   subst this;exact λz=>pn (z ▸ ha)⟩
 ·by_cases hl:l<s.length
  ·rw[_o hl]at h;obtain⟨a,h1,h2⟩:=r.cell l ys h;exact⟨a,hi l a h1,h2.gen (.new hp) hi (zE (h2.ne hp))⟩
  ·have h0:l=s.length:=by
    have:=(_c.mp h).1;simp at this;omega
   subst h0;simp at h;subst h;exact⟨p,by rw[<- r.len];simp,hc⟩
 ·rcases _H.mp h with h | h;·exact r.flat ys h
  ·have:ys=xs:=by simpa using h
   rw[this];exact hf
 ·rcases _H.mp h1 with h | h;·exact absurd h h2
  ·have:a=p:=by simpa using h
   rw[this];exact hp
theorem xx.layL{p:Addr}{xs:List D}{vs:List V}(r:Rep mg H Y s)(hp:H p=none)(hd:zu mg H Y xs vs)(hf:D.flat.flats xs=true):xx mg H Y (upd H p (.lst vs)) (Y++[p]) (s++[xs]):= xx.layC r hp (.inl ⟨vs,zN,hd.gen (.new hp) λl a h=>by rw[_o (_c.mp h).1];exact h⟩) hf
theorem xx.putC{l:Nat}{a:Addr}{o:HO}{xs:List D}(r:Rep mg H Y s)(ha:Y[l]? = some a)(k:Kp H (upd H a o))(hc:uX mg (upd H a o) Y xs a)(hf:D.flat.flats xs=true):xx mg H Y (upd H a o) Y (s.set l xs):=by
 have hai:a∈Y:=_C ha;have hll:l<s.length:=by rw[<- r.len];exact (_c.mp ha).1
 refine⟨⟨by simp[r.len],r.nd,λj ys h=>?_,λys h=>?_⟩,_c5 _,λb u h hn=>?_,λa h1 h2=>absurd h1 h2,λb hb=>(r.mt b hb).imp (λh=>⟨h,k.l b h⟩) λh=>⟨h,k.c b h,λ_ _ e=>k.k b _ e (by intro _ z;cases z) (by intro _ z;cases z)⟩⟩
 ·by_cases hj:l=j
  ·subst hj;rw[_L hll]at h;cases h;exact⟨a,ha,hc⟩
  ·rw[_B hj]at h;obtain⟨b,h1,h2⟩:=r.cell j ys h;refine⟨b,h1,h2.gen k (λ_ _ q=>q) (zE ?_)⟩;rintro rfl;have il:l<Y.length:=(_c.mp ha).1;have ij:j<Y.length:=(_c.mp h1).1;exact hj ((_b8 r.nd).mp (((_c.mp ha).2).trans ((_c.mp h1).2).symm))
 ·rcases List.mem_or_eq_of_mem_set h with h | h;·exact r.flat ys h
  ·rw[h];exact hf
 ·rw[zE (λz=>by subst z;exact hn hai)];exact h
theorem xx.put{l:Nat}{a:Addr}{xs:List D}{vs:List V}(r:Rep mg H Y s)(ha:Y[l]? = some a)(ka:IsL H a)(hd:zu mg H Y xs vs)(hf:D.flat.flats xs=true):xx mg H Y (upd H a (.lst vs)) Y (s.set l xs):= xx.putC r ha (.putL ka) (.inl ⟨vs,zN,hd.gen (.putL ka) λ_ _ q=>q⟩) hf
def listOf(s:Sto):D->Option (List D)
 | .lst xs=>some xs | .loc l=>s[l]? | _=>none
noncomputable def zW(s:Sto):D->Option (List D)
 | .tup xs=>some xs | .lst xs=>some xs | .scr xs=>some xs | .loc l=>s[l]? | _=>none
theorem zG{d:D}{xs:List D}{v:V}(r:Rep mg H Y s)(h:listOf s d=some xs)(dn:Den mg H Y d v):∃a vs,v=.ref a/\Rd H a (.lst vs)/\zu mg H Y xs vs:=by cases d with
 | lst ys=>
  simp only[listOf,_D]at h;subst h;simp only[Den]at dn;obtain⟨a,o,vs,e,h1,h2⟩:=dn;exact⟨a,vs,e,.inr ⟨o,h1⟩,h2⟩ | loc l=>
  simp only[Den]at dn;obtain⟨a,e,h1,k⟩:=dn;obtain⟨vs,h3,h4⟩:=r.at_ h h1 k;exact⟨a,vs,e,.inl h3,h4⟩ | _=>simp[listOf]at h
theorem zel{xs:List D}{v:V}(dn:Den mg H Y (.scr xs) v):∃a vs,v=.ref a/\SqL mg.K H a vs/\zu mg H Y xs vs:=by
 simp only[Den]at dn;obtain⟨a,vs,e,h1,h2⟩:=dn;exact⟨a,vs,e,h1.elim (λ⟨o,h⟩=>.inl (.inr ⟨o,h⟩)) .inr,h2⟩
theorem ut{K:W.Frag}{d:D}{xs:List D}{v:V}(r:Rep mg H Y s)(h:zW s d=some xs)(dn:Den mg H Y d v)(hK:mg.K=K:=by rfl):∃a vs,v=.ref a/\(SqL K H a vs\/SqT K H a vs)/\zu mg H Y xs vs:=by cases d with
 | tup ys=>
  simp only[zW,_D]at h;subst h;simp only[Den]at dn;obtain⟨a,vs,e,h1,h2⟩:=dn;exact⟨a,vs,e,.inr (.inl (.inl h1)),h2⟩ | lst ys=>
  obtain⟨a,vs,e,h1,h2⟩:=zG (d:=.lst ys) r h dn;exact⟨a,vs,e,.inl (.inl h1),h2⟩ | scr ys=>
  simp only[zW,_D]at h;subst h;subst hK;obtain⟨a,vs,e,h1,h2⟩:=zel dn;exact⟨a,vs,e,.inl h1,h2⟩ | loc l=>
  obtain⟨a,vs,e,h1,h2⟩:=zG (d:=.loc l) r h dn;exact⟨a,vs,e,.inl (.inl h1),h2⟩ | _=>simp[zW]at h
theorem jZ{K:W.Frag}{xs:List D}{v:V}(dn:Den mg H Y (.tup xs) v):∃a vs,v=.ref a/\SqT K H a vs/\zu mg H Y xs vs:=by
 simp only[Den]at dn;obtain⟨a,vs,e,h1,h2⟩:=dn;exact⟨a,vs,e,.inl (.inl h1),h2⟩
end
def cap:Nat:=100000
theorem ui{n:Nat}(h:n<=cap):n<=sizeLine:=_S h (by decide)
theorem zj3{n:Nat}(h:n<cap):n<sizeLine:=_p h (by decide)
def BIG:Nat:=2 ^ 4096
noncomputable def vt:D->D->Sto->R D
 | .int i,.int j,s=>.ok (.int (i+j)) s | .tup a,.tup b,s=>if a.length+b.length<=cap then .ok (.tup (a++b)) s else .no | x,y,s=>match listOf s x,listOf s y with
  | some a,some b=>if a.length+b.length<=cap then .ok (.lst (a++b)) s else .no | _,_=>.no
section
variable {X:Cx}{E:XK}
theorem zT{mg:Gm}{H:Hp}{Y:List Addr}{i:Int}{v:V}(h:Den mg H Y (.int i) v):v=.int i:=by simpa[Den] using h
theorem jQ{mg:Gm}{H:Hp}{Y:List Addr}{i:Bool}{v:V}(h:Den mg H Y (.bl i) v):v=.bl i:=by simpa[Den] using h
theorem qO{mg:Gm}{H:Hp}{Y:List Addr}{i:Str}{v:V}(h:Den mg H Y (.str i) v):v=.str i:=by simpa[Den] using h
theorem yq{mg:Gm}{H:Hp}{Y:List Addr}{i:Int}:Den mg H Y (.int i) (.int i):=by simp[Den]
theorem vJ{mg:Gm}{H:Hp}{Y:List Addr}{i:Bool}:Den mg H Y (.bl i) (.bl i):=by simp[Den]
theorem qD{mg:Gm}{H:Hp}{Y:List Addr}{s:Sto}{xs:List D}{vs:List V}{Q:VK}(r:Rep mg H Y s)(h:okR mg E H Y (Den mg) (.ok (.lst xs) s) Q)(hd:zu mg H Y xs vs):∀p,H p=none->z9O Q (.ref p) (upd H p (.lst vs)):=λp hp=>by
 refine⟨p,vs,rfl,zN,λo=>?_⟩;rw[zf8];have stp:=xx.lay (o:=.frz o (.lst vs)) r hp (by intro _ z;cases z);refine h _ _ _ stp ?_;simp only[Den];exact⟨p,o,vs,rfl,zN,hd.mono stp⟩
theorem z2j{mg:Gm}{H:Hp}{Y:List Addr}{s:Sto}{xs:List D}{vs:List V}{Q:VK}(r:Rep mg H Y s)(h:okR mg E H Y (Den mg) (.ok (.tup xs) s) Q)(hd:zu mg H Y xs vs):∀p,H p=none->Q (.ref p) (upd H p (.tup vs)):=λp hp=>by
 have stp:=xx.lay (o:=.tup vs) r hp (by intro _ z;cases z);refine h _ _ _ stp ?_;simp only[Den];exact⟨p,vs,rfl,zN,hd.mono stp⟩
theorem xp:∃r,OpR X (binaryOp .Add) r/\OpF X E r vt:=by
 refine⟨_,zia.or ((zdc).or ((zfn).or (z9W.freeze))),?_⟩;intro H Y s d1 d2 v1 v2 Q r h1 h2 h;have lists:∀a b,listOf s d1=some a->listOf s d2=some b->okR (gm X) E H Y (Den (gm X)) (if a.length+b.length<=cap then R.ok (D.lst (a++b)) s else .no) Q-> ∃l b xs zs,v1=.ref l/\v2=.ref b/\Rd H l (.lst xs)/\Rd H b (.lst zs)/\xs.length+zs.length<=sizeLine/\∀p,H p=none->z9O Q (.ref p) (upd H p (.lst (xs++zs))):=λa b ha hb hq=>by
  obtain⟨l,vs,e,q1,q2⟩:=zG r ha h1;obtain⟨l',vs',e',q1',q2'⟩:=zG r hb h2;split at hq
  ·rename_i hl;exact⟨l,l',vs,vs',e,e',q1,q1',by rw[q2.length,q2'.length];exact ui hl,qD r hq (q2.append q2')⟩
  ·exact hq.elim
 unfold vt at h;split at h
 ·rename_i i j;cases zT h1;cases zT h2;exact .inl ⟨i,j,rfl,rfl,h.here r yq⟩
 ·rename_i a b;obtain⟨l,vs,rfl,q1,q2⟩:=jZ (K:=X.K) h1;obtain⟨l',vs',rfl,q1',q2'⟩:=jZ (K:=X.K) h2;split at h
  ·rename_i hl;cases a with
   | nil=>
    simp only[zu]at q2;subst q2;exact .inr (.inl ⟨l,l',vs',rfl,rfl,q1,q1',h.here r h2⟩) | cons x a=>
    have ne:vs≠[]:=λz=>by have:=q2.length;rw[z]at this;simp at this
    refine .inr (.inr (.inl ⟨l,l',vs,vs',rfl,rfl,q1,q1',ne,by rw[q2.length,q2'.length];exact ui hl,λz=>?_,λz=>z2j r h (q2.append q2')⟩));have eb:b=[]:=by
     have:=q2'.length;rw[z]at this;exact _ao.mp this.symm
    subst eb;rw[_aD]at h;exact h.here r h1
  ·exact h.elim
 ·split at h
  ·rename_i a b ha hb;exact .inr (.inr (.inr (lists a b ha hb h)))
  ·exact h.elim
end
def dII(g:Int->Int->R D):D->D->Sto->R D
 | .int i,.int j,s=>match g i j with | .ok d _=>.ok d s | _=>.no
 | _,_,_=>.no
def iOk(d:D):R D:=.ok d []
def ze1:D->D->Sto->R D:=dII λi j=>iOk (.int (i-j))
def qJ:D->D->Sto->R D:=dII λi j=>if i.natAbs<BIG/\j.natAbs<BIG then iOk (.int (i*j)) else .no
def z79:D->D->Sto->R D:=dII λi j=>if 0<j/\j.natAbs<BIG then iOk (.int (i / j)) else .no
def zb2:D->D->Sto->R D:=dII λi j=>if 0<j then iOk (.int (i % j)) else .no
def z30:D->D->Sto->R D:=dII λi j=>if 0<=j/\j<=1000/\i.natAbs<1000 then iOk (.int (i ^ j.toNat)) else .no
def dLt:D->D->Sto->R D:=dII λi j=>iOk (.bl (decide (i<j)))
def dLe:D->D->Sto->R D:=dII λi j=>iOk (.bl (decide (i<=j)))
def dGt:D->D->Sto->R D:=dII λi j=>iOk (.bl (decide (j<i)))
def dGe:D->D->Sto->R D:=dII λi j=>iOk (.bl (decide (j<=i)))
section
variable {X:Cx}{E:XK}
theorem z08{g:Int->Int->R D}{r:R2}(h:∀i j d t H Q,g i j=.ok d t->(∀v,(∀H Y,Den (gm X) H Y d v)->Q v H)->r (.int i) (.int j) H Q):OpF X E r (dII g):=by
 intro H Y s d1 d2 v1 v2 Q rp h1 h2 hq;unfold dII at hq;split at hq
 ·rename_i i j;cases zT h1;cases zT h2;split at hq
  ·rename_i d t e;exact h i j d t H Q e λv hv=>hq.here rp (hv H Y)
  ·exact hq.elim
 ·exact hq.elim
theorem zd6:∃r,OpR X (binaryOp .Sub) r/\OpF X E r ze1:=⟨_,zhc,z08 λi j d t H Q e q=>by
 simp only[iOk,R.ok.injEq]at e;exact⟨i,j,rfl,rfl,q _ (by intro H Y;rw[<- e.1];exact yq)⟩⟩
theorem z8t{i:Int}(h:i.natAbs<BIG):Builtin.Int.intBits i<=2 ^ 20:=by
 have q:Builtin.Int.intBits i<=4096:=(PySem.intBits_le_iff (m:=4096)).mpr h;omega
theorem zgn:OpR X (binaryOp .Mult) (rI (λi j=>i.natAbs<BIG/\j.natAbs<BIG) λi j=>.int (i*j)):=opI λ_ _ _ _ _ _ _ hc q=>mul_int q (IntMulOk.of_bits (z8t hc.1) (z8t hc.2))
theorem z2n:∃r,OpR X (binaryOp .Mult) r/\OpF X E r qJ:=⟨_,zgn,z08 λi j d t H Q e q=>by
 split at e
 ·rename_i hc;simp only[iOk,R.ok.injEq]at e;exact⟨i,j,rfl,rfl,hc,q _ (by intro H Y;rw[<- e.1];exact yq)⟩
 ·cases e⟩
theorem zfd{j:Int}(h:j.natAbs<BIG):j.natAbs.log2<9000:=by
 by_cases h0:j.natAbs=0;·rw[h0];decide +kernel
 ·have:j.natAbs.log2<4096:=(Nat.log2_lt h0).mpr h;omega
theorem zds:OpR X (binaryOp .FloorDiv) (rI (λ_ j=>0<j/\j.natAbs<BIG) λi j=>.int (i / j)):=opI λi j _ _ _ _ _ hc q=>by
 refine floordiv_int (by omega) ?_ (.inl (PyProof.noPylong_of_log2 (zfd hc.2)));rw[Int.fdiv_eq_ediv_of_nonneg _ (by omega)];exact q
theorem zeq:∃r,OpR X (binaryOp .FloorDiv) r/\OpF X E r z79:=⟨_,zds,z08 λi j d t H Q e q=>by
 split at e
 ·rename_i hc;simp only[iOk,R.ok.injEq]at e;exact⟨i,j,rfl,rfl,hc,q _ (by intro H Y;rw[<- e.1];exact yq)⟩
 ·cases e⟩
theorem zcO:∃r,OpR X (binaryOp .Mod) r/\OpF X E r zb2:=⟨_,zhm,z08 λi j d t H Q e q=>by
 split at e
 ·rename_i hc;simp only[iOk,R.ok.injEq]at e;exact⟨i,j,rfl,rfl,hc,q _ (by intro H Y;rw[<- e.1];exact yq)⟩
 ·cases e⟩
theorem z68:∃r,OpR X (binaryOp .Pow) r/\OpF X E r z30:=⟨_,ziM,z08 λi j d t H Q e q=>by
 split at e
 ·rename_i hc;simp only[iOk,R.ok.injEq]at e;exact⟨i,j,rfl,rfl,⟨hc.1,by omega,by omega⟩,q _ (by intro H Y;rw[<- e.1];exact yq)⟩
 ·cases e⟩
theorem zlp:∃r,OpR X (compareOp .Lt) r/\OpF X E r dLt:=⟨_,zkR,z08 λi j d t H Q e q=>by
 simp only[iOk,R.ok.injEq]at e;exact⟨i,j,rfl,rfl,q _ (by intro H Y;rw[<- e.1];exact vJ)⟩⟩
theorem zeK:∃r,OpR X (compareOp .LtE) r/\OpF X E r dLe:=⟨_,zjG,z08 λi j d t H Q e q=>by
 simp only[iOk,R.ok.injEq]at e;exact⟨i,j,rfl,rfl,q _ (by intro H Y;rw[<- e.1];exact vJ)⟩⟩
theorem zlr:∃r,OpR X (compareOp .Gt) r/\OpF X E r dGt:=⟨_,zkf,z08 λi j d t H Q e q=>by
 simp only[iOk,R.ok.injEq]at e;exact⟨i,j,rfl,rfl,q _ (by intro H Y;rw[<- e.1];exact vJ)⟩⟩
theorem zln:∃r,OpR X (compareOp .GtE) r/\OpF X E r dGe:=⟨_,zko,z08 λi j d t H Q e q=>by
 simp only[iOk,R.ok.injEq]at e;exact⟨i,j,rfl,rfl,q _ (by intro H Y;rw[<- e.1];exact vJ)⟩⟩
end
mutual
def xK:D->PyData
 | .non=>.none | .bl b=>.bool b | .int i=>.int i | .str x=>.str x | .tup xs=>.tuple (toPys xs) | .lst xs=>.list (toPys xs) | _=>.dict []
def toPys:List D->List PyData
 | []=>[] | d::ds=>xK d::toPys ds
end
def eqD(a b:D):Bool:=PyData.eqv (xK a) (xK b)
def zdm(d:D):Bool:=SeqAt.shaped (xK d)
def dEq(x y:D)(s:Sto):R D:=if zdm x=true/\zdm y=true then .ok (.bl (eqD x y)) s else .no
def dNe(x y:D)(s:Sto):R D:=if zdm x=true/\zdm y=true then .ok (.bl (!eqD x y)) s else .no
section
variable {P:Program}{w:World}{mg:Gm}{H:Hp}{Y:List Addr}{h:Heap}
mutual
theorem Den.reads(ok:HOk P w H h):∀{d:D}{v:V}{u:Value},PyData.canLay0 (xK d)=true->Den mg H Y d v->yr v u->∃as,Reads h u (xK d) as
 | .non,_,_,_,dn,r=>by simp only[Den]at dn;subst dn;cases r;exact⟨_,by simpa[xK] using Reads.none⟩ | .bl b,_,_,_,dn,r=>by simp only[Den]at dn;subst dn;cases r;exact⟨_,by simpa[xK] using Reads.bool b⟩ | .int i,_,_,_,dn,r=>by simp only[Den]at dn;subst dn;obtain⟨t,rfl⟩:=r;exact⟨_,by simpa[xK] using Reads.int i t⟩ | .str x,_,_,_,dn,r=>by simp only[Den]at dn;subst dn;obtain⟨t,rfl⟩:=r;exact⟨_,by simpa[xK] using Reads.str x t⟩ | .tup ds,_,_,c,dn,r=>by
  simp only[Den]at dn;obtain⟨a,vs,rfl,h1,h2⟩:=dn;cases r;obtain⟨_,its,rv,o,e,hc,_,n,hd⟩:=ok a _ h1;obtain⟨as,q⟩:=zu.reads ok (by simpa[xK,PyData.canLay0] using c) h2 rv;rw[xK];exact⟨as,Reads.tuple e hc hd (by simpa using q)⟩ | .lst ds,_,_,c,dn,r=>by
  simp only[Den]at dn;obtain⟨a,o,vs,rfl,h1,h2⟩:=dn;cases r;obtain⟨_,_,its,n,rv,e⟩:=ok a _ h1;obtain⟨as,q⟩:=zu.reads ok (by simpa[xK,PyData.canLay0] using c) h2 rv;rw[xK];exact⟨_,Reads.list e rfl rfl (by simpa using q)⟩ | .dct,_,_,c,_,_=>by simp[xK,PyData.canLay0]at c | .loc _,_,_,c,_,_=>by simp[xK,PyData.canLay0]at c | .fn _,_,_,c,_,_=>by simp[xK,PyData.canLay0]at c | .exc _,_,_,c,_,_=>by simp[xK,PyData.canLay0]at c
theorem zu.reads(ok:HOk P w H h):∀{ds:List D}{vs:List V}{us:List Value},PyData.canLayAll0 (toPys ds)=true->zu mg H Y ds vs->yw vs us->∃as,ReadsAll h us (toPys ds) as
 | [],_,_,_,dn,r=>by simp only[zu]at dn;subst dn;cases r;exact⟨_,by simpa[toPys] using ReadsAll.nil⟩ | d::ds,_,_,c,dn,r=>by
  simp only[zu]at dn;obtain⟨v,vs,rfl,h1,h2⟩:=dn;simp only[toPys,PyData.canLayAll0,_z]at c;cases r with | cons r1 r2=>
   obtain⟨as,q⟩:=Den.reads ok c.1 h1 r1;obtain⟨bs,q'⟩:=zu.reads ok c.2 h2 r2;rw[toPys];exact⟨_,ReadsAll.cons q q'⟩
end
end
section
variable {X:Cx}{E:XK}
def zlg(mg:Gm)(neg:Bool):R2:=λx y H Q=>∃Y d1 d2,Den mg H Y d1 x/\Den mg H Y d2 y/\zdm d1=true/\zdm d2=true/\Q (.bl (if neg then !eqD d1 d2 else eqD d1 d2)) H
theorem ziy(hu:X.A.units+64<cLine):OpR X (compareOp .Eq) (zlg (gm X) false):=by
 intro pins s O H x y v u Q I rx ry ⟨Y,d1,d2,h1,h2,p1,p2,q⟩;obtain⟨as,ra⟩:=Den.reads I.hok (_bf p1) h1 rx;obtain⟨bs,rb⟩:=Den.reads I.hok (_bf p2) h2 ry;exact SeqAt.compareEq_shaped ra rb p1 p2 hu ⟨.bl (eqD d1 d2),H,I,rfl,q⟩
theorem zja(hu:X.A.units+64<cLine):OpR X (compareOp .NotEq) (zlg (gm X) true):=by
 intro pins s O H x y v u Q I rx ry ⟨Y,d1,d2,h1,h2,p1,p2,q⟩;obtain⟨as,ra⟩:=Den.reads I.hok (_bf p1) h1 rx;obtain⟨bs,rb⟩:=Den.reads I.hok (_bf p2) h2 ry;exact SeqAt.compareNe_shaped ra rb p1 p2 hu ⟨.bl (!eqD d1 d2),H,I,rfl,q⟩
theorem z70(hu:X.A.units+64<cLine):∃r,OpR X (compareOp .Eq) r/\OpF X E r dEq:=⟨_,ziy hu,λH Y s d1 d2 v1 v2 Q r h1 h2 h=>by
 unfold dEq at h;split at h
 ·rename_i hc;exact⟨Y,d1,d2,h1,h2,hc.1,hc.2,h.here r vJ⟩
 ·exact h.elim⟩
theorem zc7(hu:X.A.units+64<cLine):∃r,OpR X (compareOp .NotEq) r/\OpF X E r dNe:=⟨_,zja hu,λH Y s d1 d2 v1 v2 Q r h1 h2 h=>by
 unfold dNe at h;split at h
 ·rename_i hc;exact⟨Y,d1,d2,h1,h2,hc.1,hc.2,h.here r vJ⟩
 ·exact h.elim⟩
noncomputable def z28:D->Option V
 | .non=>some .non | .bl b=>some (.bl b) | .int i=>some (.int i) | .str x=>some (.str x) | _=>none
theorem z6i{mg:Gm}{H:Hp}{Y:List Addr}{d:D}{v w:V}(h:z28 d=some w)(dn:Den mg H Y d v):v=w/\z3r v=true:=by cases d<;>simp only[z28,_D,reduceCtorEq]at h<;>(simp only[Den]at dn;subst dn;subst h;exact⟨rfl,rfl⟩)
noncomputable def je:List D->Option (List V)
 | []=>some [] | d::ds=>match z28 d,je ds with | some v,some vs=>some (v::vs) | _,_=>none
theorem z3V{mg:Gm}{H:Hp}{Y:List Addr}:∀{ds:List D}{vs ws:List V},je ds=some ws->zu mg H Y ds vs->vs=ws/\vs.all z3r=true
 | [],_,_,h,dn=>by simp only[je,_D]at h;simp only[zu]at dn;subst dn;subst h;exact⟨rfl,rfl⟩ | d::ds,_,_,h,dn=>by
  simp only[zu]at dn;obtain⟨v,vs,rfl,h1,h2⟩:=dn;simp only[je]at h;split at h
  ·rename_i w ws e1 e2;cases h;obtain⟨a1,a2⟩:=z6i e1 h1;obtain⟨b1,b2⟩:=z3V e2 h2;exact⟨by rw[a1,b1],by rw[_ce,a2,b2];rfl⟩
  ·cases h
noncomputable def za2(neg:Bool)(x y:D)(s:Sto):R D:=match z28 x,(zW s y).bind je with
 | some v,some vs=>.ok (.bl (if neg then !inV v vs else inV v vs)) s | _,_=>.no
theorem ziX{neg:Bool}:OpF X E (rIn X.K neg) (za2 neg):=λH Y s d1 d2 v1 v2 Q r h1 h2 h=>by
 unfold za2 at h;split at h
 ·rename_i v vs e1 e2;cases e3:zW s d2 with
  | none=>rw[e3]at e2;cases e2 | some xs=>
   rw[e3]at e2;obtain⟨a,ws,rfl,q1,q2⟩:=ut (K:=X.K) r e3 h2;obtain⟨b1,b2⟩:=z3V e2 q2;obtain⟨a1,a2⟩:=z6i e1 h1;subst a1 b1;exact⟨a,ws,rfl,q1,a2,b2,h.here r vJ⟩
 ·exact h.elim
theorem zlO:∃r,OpR X (compareOp .In) r/\OpF X E r (za2 false):=⟨_,zbF,ziX⟩
noncomputable def dIx(x y:D)(s:Sto):R D:=match y,zW s x with
 | .int i,some xs=>match atI xs i with | some d=>.ok d s | none=>.no
 | _,_=>.no
theorem zcB{mg:Gm}{H:Hp}{Y:List Addr}{xs:List D}{vs:List V}{i:Int}{d:D}(h:zu mg H Y xs vs)(e:atI xs i=some d):∃v,atI vs i=some v/\Den mg H Y d v:=by
 unfold atI at e ⊢;rw[h.length];cases q:ixN xs.length i with
 | none=>rw[q]at e;cases e | some j=>
  rw[q]at e;exact h.get e
theorem zlZ:∃r,IxR X r/\OpF X E r dIx:=⟨_,zfx.or zin,λH Y s d1 d2 v1 v2 Q r h1 h2 h=>by
 unfold dIx at h;split at h
 ·rename_i i xs e;split at h
  ·rename_i d e2;cases zT h2;obtain⟨a,vs,rfl,q1,q2⟩:=ut (K:=X.K) r e h1;obtain⟨v,e3,e4⟩:=zcB q2 e2;rcases q1 with q1 | q1;·exact .inl ⟨a,vs,i,v,rfl,rfl,q1,e3,h.here r e4⟩
   ·exact .inr ⟨a,vs,i,v,rfl,rfl,q1,e3,h.here r e4⟩
  ·exact h.elim
 ·exact h.elim⟩
end
section
variable {X:Cx}{E:XK}{e a b c:Expr}{es:List Expr}{pos:Pos}
theorem zQ{op:Operator}{fo:D->D->Sto->R D}{fa fb:FE}(ho:∃r,OpR X (binaryOp op) r/\OpF X E r fo)(ha:RE X E a fa)(hb:RE X E b fb):RE X E (.BinOp a op b pos) (eOp fo fa fb):=let ⟨_,h⟩:=ho;zlC h ha hb
theorem z1N{op:CmpOp}{fo:D->D->Sto->R D}{fa fb:FE}(ho:∃r,OpR X (compareOp op) r/\OpF X E r fo)(ha:RE X E a fa)(hb:RE X E b fb)(hm:behindInMarks op b=false:=by first | exact zeB _ | rfl):RE X E (.Compare a [op] [b] pos) (eOp fo fa fb):=let ⟨_,h⟩:=ho;zjF h ha hb hm
def tOf(f:FE):FT:=λZ s=>(f Z s).bind λd s1=>match d with | .bl k=>.ok k s1 | _=>.no
theorem z43{f:FE}{O:L2.St}{H:Hp}{Q:Bool->Hp->Prop}(h:tT (gm X) E (tOf f) O H Q):zfC (tE (gm X) E f) O H Q:=by
 obtain⟨Y,Z,s,r,en,h⟩:=h;refine zO (k:=λZ d s1=>match d with | .bl k=>.ok k s1 | _=>.no) r en h _ λv H1 Y1 s1 d r1 en1 dn stp h1=>?_;cases d with
 | bl k=>
  cases jQ dn;exact⟨k,rfl,h1.here (b:=k) r1 rfl⟩ | _=>exact h1.elim
theorem yy{op:CmpOp}{fo:D->D->Sto->R D}{fa fb:FE}(ho:∃r,OpR X (compareOp op) r/\OpF X E r fo)(ha:RE X E a fa)(hb:RE X E b fb)(hm:behindInMarks op b=false:=by first | exact zeB _ | rfl):RT X E (.Compare a [op] [b] pos) (tOf (eOp fo fa fb)):=by
 obtain⟨r,h1,h2⟩:=ho;exact z6x (zfp h1 ha hb hm) λO H Q h=>by
  have q:=z43 h;exact z8B h2 q
noncomputable def z0d(fo fo':D->D->Sto->R D)(fa fb fc:FE):FE:=λZ s=>(fa Z s).bind λx s1=>(fb Z s1).bind λy s2=>(fo x y s2).bind λz s3=>match z with
 | .bl true=>(fc Z s3).bind λw s4=>fo' y w s4 | .bl false=>.ok (.bl false) s3 | _=>.no
theorem z65{r r':R2}{fo fo':D->D->Sto->R D}{fa fb fc:FE}(ho:OpF X E r fo)(ho':OpF X E r' fo'){O:L2.St}{H:Hp}{Q:VK}(h:tE (gm X) E (z0d fo fo' fa fb fc) O H Q):zar r r' (tE (gm X) E fa) (tE (gm X) E fb) (tE (gm X) E fc) O H Q:=by
 obtain⟨Y,Z,s,rp,en,h⟩:=h;refine zO (k:=λZ x s1=>(fb Z s1).bind λy s2=>(fo x y s2).bind λz s3=>match z with
  | .bl true=>(fc Z s3).bind λw s4=>fo' y w s4 | .bl false=>.ok (.bl false) s3 | _=>.no) rp en h _ λv H1 Y1 s1 d r1 en1 dn stp h1=>?_;refine zO (k:=λZ y s2=>(fo d y s2).bind λz s3=>match z with
  | .bl true=>(fc Z s3).bind λw s4=>fo' y w s4 | .bl false=>.ok (.bl false) s3 | _=>.no) r1 en1 h1 _ λv2 H2 Y2 s2 d2 r2 en2 dn2 stp2 h2=>?_;refine ho H2 Y2 s2 d d2 v v2 _ r2 (dn.mono stp2) dn2 ((okR.bind (Dn:=Den (gm X)) h2).imp λv3 H3 ⟨Y3,s3,d3,stp3,dn3,h3⟩=>?_);cases d3 with
 | bl k=>
  cases jQ dn3;refine⟨k,rfl,?_⟩;cases k with
  | true=>
   rw[_e rfl];refine zO (k:=λZ w s4=>fo' d2 w s4) stp3.rep (en2.mono stp3) h3 _ λv4 H4 Y4 s4 d4 r4 en4 dn4 stp4 h4=>?_;exact ho' H4 Y4 s4 d2 d4 v2 v4 Q r4 ((dn2.mono stp3).mono stp4) dn4 h4 | false=>
   rw[_j (by decide)];exact okR.here (b:=V.bl false) h3 stp3.rep vJ
 | _=>exact h3.elim
theorem zfS{op op':CmpOp}{fo fo':D->D->Sto->R D}{fa fb fc:FE}(ho:∃r,OpR X (compareOp op) r/\OpF X E r fo)(ho':∃r,OpR X (compareOp op') r/\OpF X E r fo')(ha:RE X E a fa)(hb:RE X E b fb)(hc:RE X E c fc) (hm:lastMarks [op,op'] [b,c]=false:=by with_unfolding_all rfl):RE X E (.Compare a [op,op'] [b,c] pos) (z0d fo fo' fa fb fc):=by
 obtain⟨r,h1,h2⟩:=ho;obtain⟨r',h1',h2'⟩:=ho';exact zL (zdb h1 h1' ha hb hc hm) λO H Q h=>z65 h2 h2' h
def zcL(fa fb:FE):FE:=λZ s=>(fa Z s).bind λx s1=>match x with | .bl true=>fb Z s1 | .bl false=>.ok (.bl false) s1 | _=>.no
def zjd(fa:FE):FE:=λZ s=>(fa Z s).bind λx s1=>match x with | .bl k=>.ok (.bl (!k)) s1 | _=>.no
variable {ke:List Expr}
theorem z9h{op:BoolOp}{f:FE}(h:RE X E a f):RE X E (.BoolOp op [a] pos) f:=zhQ h
theorem z9r{fa fb:FE}(ha:RE X E a fa)(hb:RE X E (.BoolOp .And (b::ke) pos) fb):RE X E (.BoolOp .And (a::b::ke) pos) (zcL fa fb):= zL (zh0 ha hb) λO H Q ⟨Y,Z,s,r,en,h⟩=>by
  refine zO (k:=λZ x s1=>match x with | .bl true=>fb Z s1 | .bl false=>.ok (.bl false) s1 | _=>.no) r en h _ λv H1 Y1 s1 d r1 en1 dn stp h1=>?_;cases d with
  | bl k=>
   cases jQ dn;refine⟨k,rfl,?_⟩;cases k with
   | true=>rw[_e rfl];exact⟨Y1,Z,s1,r1,en1,h1⟩ | false=>rw[_j (by decide)];exact okR.here (b:=V.bl false) h1 r1 vJ
  | _=>exact h1.elim
theorem zhO{fa:FE}(ha:RE X E a fa):RE X E (.UnaryOp .Not a pos) (zjd fa):= zL (ziQ ha) λO H Q ⟨Y,Z,s,r,en,h⟩=>by
  refine zO (k:=λZ x s1=>match x with | .bl k=>R.ok (D.bl (!k)) s1 | _=>.no) r en h _ λv H1 Y1 s1 d r1 en1 dn stp h1=>?_;cases d with
  | bl k=>
   cases jQ dn;exact⟨k,rfl,okR.here (b:=V.bl (!k)) h1 r1 vJ⟩ | _=>exact h1.elim
def zhF(fa fb:FT):FT:=λZ s=>(fa Z s).bind λx s1=>if x=true then fb Z s1 else .ok false s1
def fOr(fa fb:FT):FT:=λZ s=>(fa Z s).bind λx s1=>if x=true then .ok true s1 else fb Z s1
def z2E(fa:FT):FT:=λZ s=>(fa Z s).bind λx s1=>.ok (!x) s1
def RW(X:Cx)(E:XK)(e:Expr)(f:FT):Prop:=PW X e (tT (gm X) E f)
theorem RW.rt{f:FT}(h:RW X E e f):RT X E e f:=PW.pt h
theorem zee{t t':TT}(h:PW X e t)(i:∀O H Q,t' O H Q->t O H Q):PW X e t':=λwh pins s O H Q I q=>h wh pins s O H Q I (i O H Q q)
theorem zef{f:FT}(h:RT X E a f):RW X E (.BoolOp .And [a] pos) f:=zg1 h
theorem z9b{f:FT}(h:RT X E a f):RW X E (.BoolOp .Or [a] pos) f:=zi6 h
theorem w_and{fa fb:FT}(ha:RT X E a fa)(hb:RW X E (.BoolOp .And (b::ke) pos) fb):RW X E (.BoolOp .And (a::b::ke) pos) (zhF fa fb):= zee (zi5 ha hb) λO H Q ⟨Y,Z,s,r,en,h⟩=>by
  refine z2g (k:=λZ x s1=>if x=true then fb Z s1 else .ok false s1) r en h _ λv H1 Y1 s1 r1 en1 stp h1=>?_;cases v with
  | true=>rw[_e rfl]at h1 ⊢;exact⟨Y1,Z,s1,r1,en1,h1⟩ | false=>rw[_j (by decide)]at h1 ⊢;exact h1.here r1 rfl
theorem zgS{fa fb:FT}(ha:RT X E a fa)(hb:RW X E (.BoolOp .Or (b::ke) pos) fb):RW X E (.BoolOp .Or (a::b::ke) pos) (fOr fa fb):= zee (zkB ha hb) λO H Q ⟨Y,Z,s,r,en,h⟩=>by
  refine z2g (k:=λZ x s1=>if x=true then .ok true s1 else fb Z s1) r en h _ λv H1 Y1 s1 r1 en1 stp h1=>?_;cases v with
  | false=>rw[_j (by decide)]at h1 ⊢;exact⟨Y1,Z,s1,r1,en1,h1⟩ | true=>rw[_e rfl]at h1 ⊢;exact h1.here r1 rfl
theorem z0t{fa:FT}(ha:RT X E a fa):RT X E (.UnaryOp .Not a pos) (z2E fa):= z6x (zhu ha) λO H Q ⟨Y,Z,s,r,en,h⟩=>z2g (k:=λZ x s1=>.ok (!x) s1) r en h _ λv H1 Y1 s1 r1 en1 stp h1=>h1.here r1 rfl
theorem kU{f:FE}(h:RE X E a f)(he:∀whole,isTrue a X.env whole=(do let v <- whole;standAt a.pos;holding [v] (truthy v)):=by intro _;rfl):RT X E a (tOf f):= z6x (ziJ h he) λO H Q h=>z43 h
def eIf(ft:FT)(fa fb:FE):FE:=λZ s=>(ft Z s).bind λx s1=>if x=true then fa Z s1 else fb Z s1
theorem zhp{ft:FT}{fa fb:FE}(hc:RT X E c ft)(ha:RE X E a fa)(hb:RE X E b fb):RE X E (.IfExp c a b pos) (eIf ft fa fb):= zL (zcR hc ha hb) λO H Q ⟨Y,Z,s,r,en,h⟩=>z2g (k:=λZ x s1=>if x=true then fa Z s1 else fb Z s1) r en h _ λv H1 Y1 s1 r1 en1 stp h1=>by cases v with
  | true=>rw[_e rfl]at h1 ⊢;exact⟨Y1,Z,s1,r1,en1,h1⟩ | false=>rw[_j (by decide)]at h1 ⊢;exact⟨Y1,Z,s1,r1,en1,h1⟩
theorem z0E {fa fb:FE} (ha:RE X E a fa) (hb:RE X E b fb) (hs:z7g b:=by intro _ _;rfl):RE X E (.Subscript a b pos) (eOp dIx fa fb):=by
 obtain⟨r,h1,h2⟩:=zlZ (X:=X) (E:=E);exact zL (zi1 h1 ha hb hs) λO H Q h=>z8B h2 h
def zk:FA:=λ_ s=>.ok [] s
def za(fa:FE)(fr:FA):FA:=λZ s=>(fa Z s).bind λx s1=>(fr Z s1).bind λxs s2=>.ok (x::xs) s2
theorem zd:RA X E [] zk:=ze8 kY λO H Q ⟨Y,Z,s,r,en,h⟩=>h.here r zu.nil
theorem uN{fa:FE}{fr:FA}(ha:RE X E e fa)(hr:RA X E es fr)(hs:starEach (e::es) X.env=(false,eval e X.env)::starEach es X.env:=by rfl):RA X E (e::es) (za fa fr):= ze8 (wS ha hr hs) λO H Q ⟨Y,Z,s,r,en,h⟩=>by
  refine zO (k:=λZ x s1=>(fr Z s1).bind λxs s2=>.ok (x::xs) s2) r en h _ λv H1 Y1 s1 d r1 en1 dn stp h1=>?_;refine vE (k:=λZ xs s2=>.ok (d::xs) s2) r1 en1 h1 _ λvs H2 Y2 s2 ds r2 en2 dn2 stp2 h2=>?_;exact h2.here r2 (zu.cons (dn.mono stp2) dn2)
def qM(f:FA):FE:=λZ s=>(f Z s).bind λxs s1=>if xs.length<=cap then .ok (.tup xs) s1 else .no
theorem wO{f:FA}{x1:Nat}(h:RA X E es f):RE X E (.Tuple es x1 pos) (qM f):= zL (zhs h) λO H Q ⟨Y,Z,s,r,en,h⟩=>by
  refine vE (k:=λZ xs s1=>if xs.length<=cap then R.ok (D.tup xs) s1 else .no) r en h _ λvs H2 Y2 s2 ds r2 en2 dn2 stp2 h2=>?_;split at h2
  ·rename_i hl;exact⟨by rw[dn2.length];exact ui hl,z2j r2 h2 dn2⟩
  ·exact h2.elim
def ue(f:FA):FE:=λZ s=>(f Z s).bind λxs s1=>if xs.length<=cap then .ok (.lst xs) s1 else .no
theorem xr{f:FA}(h:RA X E es f):RE X E (.List es pos) (ue f):= zL (zeC h).freeze λO H Q ⟨Y,Z,s,r,en,h⟩=>by
  refine vE (k:=λZ xs s1=>if xs.length<=cap then R.ok (D.lst xs) s1 else .no) r en h _ λvs H2 Y2 s2 ds r2 en2 dn2 stp2 h2=>?_;split at h2
  ·rename_i hl;exact⟨by rw[dn2.length];exact ui hl,qD r2 h2 dn2⟩
  ·exact h2.elim
def zek(f:FA):FE:=λZ s=>(f Z s).bind λxs s1=>if xs.length<=cap/\D.flat.flats xs=true then .ok (.loc s1.length) (s1++[xs]) else .no
theorem z9Y{mg:Gm}{H:Hp}{Y:List Addr}{s:Sto}{xs:List D}{vs:List V}{Q:VK}(r:Rep mg H Y s)(h:okR mg E H Y (Den mg) (.ok (.loc s.length) (s++[xs])) Q)(hf:D.flat.flats xs=true)(hd:zu mg H Y xs vs):∀p,H p=none->Q (.ref p) (upd H p (.lst vs)):=λp hp=>by
 refine h _ _ _ (xx.layL r hp hd hf) ?_;simp only[Den];exact⟨p,rfl,by rw[<- r.len];simp,vs,zN⟩
theorem zbz{f:FA}(h:RA X E es f):RE X E (.List es pos) (zek f):= zL (zeC h) λO H Q ⟨Y,Z,s,r,en,h⟩=>by
  refine vE (k:=λZ xs s1=>if xs.length<=cap/\D.flat.flats xs=true then R.ok (D.loc s1.length) (s1++[xs]) else .no) r en h _ λvs H2 Y2 s2 ds r2 en2 dn2 stp2 h2=>?_;split at h2
  ·rename_i hl;exact⟨by rw[dn2.length];exact ui hl.1,z9Y r2 h2 hl.2 dn2⟩
  ·exact h2.elim
def z1m(X:Cx)(E:XK)(r:List V->Hp->VK->Prop)(g:List D->Sto->R D):Prop:= ∀H Y s ds vs (Q:VK),Rep (gm X) H Y s->zu (gm X) H Y ds vs->okR (gm X) E H Y (Den (gm X)) (g ds s) Q->r vs H Q
def zi(g:List D->Sto->R D)(f:FA):FE:=λZ s=>(f Z s).bind λxs s1=>g xs s1
theorem zV {x:Str} {p:Pos} {id:String} {g:List D->Sto->R D} {f:FA} (hc:∃r,xF X (.builtin id) r/\z1m X E r g) (hg:Gl X x) (hm:X.mg x=none) (hv:bootBuiltins x=some (.builtin id)) (ha:RA X E (e::es) f) (hn:x≠"__name__":=by decide) (hdb:(x==("__debug__":Str))=false:=by decide) (he:starEach (e::es) X.env=(false,eval e X.env)::starEach es X.env:=by rfl) (hpl:(backTo pos (starEach es X.env)).any (·.1)=false:=by rfl):RE X E (.Call (.Name x p) (e::es) [] pos) (zi g f):=by
 obtain⟨r,h1,h2⟩:=hc;exact zL (z1A h1 hg hm hv ha hn hdb he hpl) λO H Q ⟨Y,Z,s,r,en,h⟩=> vE (k:=λZ xs s1=>g xs s1) r en h _ λvs H2 Y2 s2 ds r2 en2 dn2 stp2 h3=>h2 H2 Y2 s2 ds vs Q r2 dn2 h3
theorem z4n {x:Str} {p:Pos} {T:String} {g:List D->Sto->R D} {f:FA} (hc:∃r,xF X (.type T) r/\z1m X E r g) (hg:Gl X x) (hm:X.mg x=none) (hv:bootBuiltins x=some (.type T)) (ha:RA X E (e::es) f) (hn:x≠"__name__":=by decide) (hdb:(x==("__debug__":Str))=false:=by decide) (he:starEach (e::es) X.env=(false,eval e X.env)::starEach es X.env:=by rfl) (hpl:(backTo pos (starEach es X.env)).any (·.1)=false:=by rfl):RE X E (.Call (.Name x p) (e::es) [] pos) (zi g f):=by
 obtain⟨r,h1,h2⟩:=hc;exact zL (zbx h1 hg hm hv ha hn hdb he hpl) λO H Q ⟨Y,Z,s,r,en,h⟩=> vE (k:=λZ xs s1=>g xs s1) r en h _ λvs H2 Y2 s2 ds r2 en2 dn2 stp2 h3=>h2 H2 Y2 s2 ds vs Q r2 dn2 h3
theorem z36{mg:Gm}{H:Hp}{Y:List Addr}{d:D}{vs:List V}(h:zu mg H Y [d] vs):∃v,vs=[v]/\Den mg H Y d v:=by
 simp only[zu]at h;obtain⟨v,r,rfl,h1,rfl⟩:=h;exact⟨v,rfl,h1⟩
theorem z6N{mg:Gm}{H:Hp}{Y:List Addr}{d d':D}{vs:List V}(h:zu mg H Y [d,d'] vs):∃v v',vs=[v,v']/\Den mg H Y d v/\Den mg H Y d' v':=by
 simp only[zu]at h;obtain⟨v,r,rfl,h1,v',r',rfl,h2,rfl⟩:=h;exact⟨v,v',rfl,h1,h2⟩
noncomputable def ub:List D->Sto->R D
 | [d],s=>match zW s d with | some xs=>.ok (.int xs.length) s | none=>.no
 | _,_=>.no
theorem z0k:∃r,xF X (.builtin "len") r/\z1m X E r ub:=⟨_,z5P,λH Y s ds vs Q r hd h=>by
 unfold ub at h;split at h
 ·split at h
  ·rename_i d xs e;obtain⟨v,rfl,dn⟩:=z36 hd;obtain⟨a,ws,rfl,q1,q2⟩:=ut (K:=X.K) r e dn;exact⟨a,ws,rfl,q1,by rw[q2.length];exact h.here r yq⟩
  ·exact h.elim
 ·exact h.elim⟩
noncomputable def z01:List D->Sto->R D
 | [d],s=>match zW s d with | some xs=>.ok (.tup xs) s | none=>.no
 | _,_=>.no
theorem z7E:∃r,xF X (.type "tuple") r/\z1m X E r z01:=⟨_,z54,λH Y s ds vs Q r hd h=>by match ds,hd,h with
 | [],_,h=>exact h.elim | _::_::_,_,h=>exact h.elim | [d],hd,h=>
  obtain⟨v,rfl,dn⟩:=z36 hd;simp only[z01]at h;cases e:zW s d with
  | none=>rw[e]at h;exact h.elim | some xs=>
   rw[e]at h;cases d with
   | tup ys=>
    simp only[zW,_D]at e;subst e;obtain⟨a,ws,rfl,q1,q2⟩:=jZ (K:=X.K) dn;exact⟨a,ws,rfl,.inr ⟨q1,h.here r dn⟩⟩ | lst ys=>
    obtain⟨a,ws,rfl,q1,q2⟩:=zG (d:=.lst ys) r e dn;exact⟨a,ws,rfl,.inl ⟨.inl q1,z2j r h q2⟩⟩ | loc l=>
    obtain⟨a,ws,rfl,q1,q2⟩:=zG (d:=.loc l) r e dn;exact⟨a,ws,rfl,.inl ⟨.inl q1,z2j r h q2⟩⟩ | scr ys=>
    simp only[zW,_D]at e;subst e;obtain⟨a,ws,rfl,q1,q2⟩:=zel dn;exact⟨a,ws,rfl,.inl ⟨q1,z2j r h q2⟩⟩ | _=>simp[zW]at e⟩
noncomputable def z9A:List D->Sto->R D
 | [d],s=>match zW s d with | some xs=>.ok (.lst xs) s | none=>.no
 | _,_=>.no
theorem zhx:∃r,xF X (.type "list") r/\z1m X E r z9A:=⟨_,z6G.freeze,λH Y s ds vs Q r hd h=>by
 unfold z9A at h;split at h
 ·split at h
  ·rename_i d xs e;obtain⟨v,rfl,dn⟩:=z36 hd;obtain⟨a,ws,rfl,q1,q2⟩:=ut (K:=X.K) r e dn;exact⟨a,ws,rfl,q1,qD r h q2⟩
  ·exact h.elim
 ·exact h.elim⟩
noncomputable def zdh:List D->Sto->R D
 | [.int i,.int j],s=>.ok (.int (if j > i then j else i)) s | _,_=>.no
def z7D:List D->Sto->R D
 | [.int i,.int j],s=>.ok (.int (if j<i then j else i)) s | _,_=>.no
theorem zji(hc:X.calm=true):∃r,xF X (.builtin "max") r/\z1m X E r zdh:=⟨_,zb4 hc,λH Y s ds vs Q r hd h=>by
 unfold zdh at h;split at h
 ·rename_i i j;obtain⟨v,v',rfl,d1,d2⟩:=z6N hd;cases zT d1;cases zT d2;exact⟨i,j,rfl,h.here r yq⟩
 ·exact h.elim⟩
theorem zen(hc:X.calm=true):∃r,xF X (.builtin "min") r/\z1m X E r z7D:=⟨_,za7 hc,λH Y s ds vs Q r hd h=>by
 unfold z7D at h;split at h
 ·rename_i i j;obtain⟨v,v',rfl,d1,d2⟩:=z6N hd;cases zT d1;cases zT d2;exact⟨i,j,rfl,h.here r yq⟩
 ·exact h.elim⟩
abbrev FO:=Ev->Sto->R (Option Int)
def oD(_:Hp)(_:List Addr)(a b:Option Int):Prop:=a=b
def tO(mg:Gm)(E:XK)(f:FO):TO:=λO H Q=>∃Y Z s,Rep mg H Y s/\ua mg H Y Z O/\okR mg E H Y oD (f Z s) Q
def RO(X:Cx)(E:XK)(e:Option Expr)(f:FO):Prop:=PO X e (tO (gm X) E f)
theorem ze6{o:Option Expr}{t t':TO}(h:PO X o t)(i:∀O H Q,t' O H Q->t O H Q):PO X o t':=λpins s O H Q I q=>h pins s O H Q I (i O H Q q)
def yW:FO:=λ_ s=>.ok none s
def uT(f:FE):FO:=λZ s=>(f Z s).bind λd s1=>match d with | .int i=>.ok (some i) s1 | _=>.no
theorem uQ:RO X E none yW:=ze6 zaN λO H Q ⟨Y,Z,s,r,en,h⟩=>h.here (b:=none) r rfl
theorem uw{f:FE}(h:RE X E e f):RO X E (some e) (uT f):=ze6 (zfZ h) λO H Q ⟨Y,Z,s,r,en,h⟩=>by
 refine zO (k:=λZ d s1=>match d with | .int i=>.ok (some i) s1 | _=>.no) r en h _ λv H1 Y1 s1 d r1 en1 dn stp h1=>?_;cases d with
 | int i=>cases zT dn;exact⟨i,rfl,h1.here (b:=some i) r1 rfl⟩ | _=>exact h1.elim
def cutD(xs:List D)(lo hi:Option Int):List D:=(xs.drop (HT.sIx xs.length 0 lo)).take (HT.sIx xs.length xs.length hi-HT.sIx xs.length 0 lo)
theorem z4u{mg:Gm}{H:Hp}{Y:List Addr}{xs:List D}{vs:List V}(h:zu mg H Y xs vs)(lo hi:Option Int):zu mg H Y (cutD xs lo hi) (ze5 vs lo hi):=by
 unfold cutD ze5;rw[h.length];exact (h.drop _).take _
def dSl(x:D)(lo hi:Option Int)(s:Sto):R D:=match x with
 | .tup xs=>.ok (.tup (cutD xs lo hi)) s | x=>match listOf s x with | some xs=>.ok (.lst (cutD xs lo hi)) s | none=>.no
def eSl(fe:FE)(fl fh:FO):FE:=λZ s=>(fe Z s).bind λx s1=>(fl Z s1).bind λlo s2=>(fh Z s2).bind λhi s3=>dSl x lo hi s3
theorem z7n{α β:Type}{Dn:Hp->List Addr->α->β->Prop}{mg:Gm}{f:FO}{k:Ev->Option Int->Sto->R α}{O:L2.St}{H:Hp}{Q:β->Hp->Prop}{Y:List Addr}{Z:Ev}{s:Sto}(r:Rep mg H Y s)(en:ua mg H Y Z O) (h:okR mg E H Y Dn ((f Z s).bind (k Z)) Q)(K:Option Int->Hp->Prop) (hK:∀v H1 Y1 s1,Rep mg H1 Y1 s1->ua mg H1 Y1 Z O->xx mg H Y H1 Y1 s1->okR mg E H1 Y1 Dn (k Z v s1) Q->K v H1):tO mg E f O H K:= ⟨Y,Z,s,r,en,(okR.bind (Dn:=oD) h).imp λv H1 ⟨Y1,s1,d,stp,dn,q⟩=>hK v H1 Y1 s1 stp.rep (en.mono stp) stp (by cases (show d=v from dn);exact q)⟩
theorem wx{lo hi:Option Expr}{p2:Pos}{fe:FE}{fl fh:FO}(he:RE X E e fe)(hl:RO X E lo fl)(hh:RO X E hi fh):RE X E (.Subscript e (.Slice lo hi none p2) pos) (eSl fe fl fh):= zL (z8k ((zhU.or zgv).or zeT.freeze) he hl hh) λO H Q ⟨Y,Z,s,r,en,h⟩=>by
  refine zO (k:=λZ x s1=>(fl Z s1).bind λlo s2=>(fh Z s2).bind λhi s3=>dSl x lo hi s3) r en h _ λv H1 Y1 s1 d r1 en1 dn stp h1=>?_;refine z7n (k:=λZ lo s2=>(fh Z s2).bind λhi s3=>dSl d lo hi s3) r1 en1 h1 _ λlo H2 Y2 s2 r2 en2 stp2 h2=>?_;refine z7n (k:=λZ hi s3=>dSl d lo hi s3) r2 en2 h2 _ λhi H3 Y3 s3 r3 en3 stp3 h3=>?_;have dn3:=(dn.mono stp2).mono stp3;cases d with
  | tup xs=>
   obtain⟨a,vs,rfl,q1,q2⟩:=jZ (K:=X.K) dn3;have h3':okR (gm X) E H3 Y3 (Den (gm X)) (.ok (.tup (cutD xs lo hi)) s3) Q:=h3;by_cases hw:HT.sIx vs.length 0 lo=0/\HT.sIx vs.length vs.length hi=vs.length
   ·refine .inl (.inr ⟨a,vs,rfl,q1,hw,?_⟩);have e:cutD xs lo hi=xs:=by
     unfold cutD;rw[<- q2.length,hw.1,hw.2];simp[q2.length]
    rw[e]at h3';exact h3'.here r3 dn3
   ·exact .inl (.inl ⟨a,vs,rfl,q1,hw,z2j r3 h3' (z4u q2 lo hi)⟩) | lst xs=>
   obtain⟨a,vs,rfl,q1,q2⟩:=zG (d:=.lst xs) r3 rfl dn3;exact .inr ⟨a,vs,rfl,.inl q1,qD r3 h3 (z4u q2 lo hi)⟩ | loc l=>
   simp only[dSl]at h3;split at h3
   ·rename_i xs e;obtain⟨a,vs,rfl,q1,q2⟩:=zG (d:=.loc l) r3 e dn3;exact .inr ⟨a,vs,rfl,.inl q1,qD r3 h3 (z4u q2 lo hi)⟩
   ·exact h3.elim | _=>exact h3.elim
end
abbrev Mir:=List D->Sto->R D
def zcu(mg:Gm)(M:Mir):Sp:=λvs H Q E=>∃Y s ds,Rep mg H Y s/\zu mg H Y ds vs/\okR mg E H Y (Den mg) (M ds s) Q
def Has(P:Program)(w:World)(K:W.Frag)(mg:Str->Option Value)(base:Heap)(CX:CXT)(x:Str)(n:Nat)(M:Mir):Prop:= ∃f fd ps,z4y P w K mg base CX n f fd ps (zcu ⟨mg,K⟩ M)/\Binds K fd ps []/\W.keepIn K (.ref f)=true/\mg x=some (.ref f)
section
variable {X:Cx}{E:XK}{e a b c:Expr}{es:List Expr}{pos:Pos}{CX:CXT}
theorem zj8 {x:Str} {p:Pos} {n:Nat} {M:Mir} {f:FA} (F:Has X.prog X.w X.K X.mg X.base CX x n M) (hr:z0e n X.A) (hx:Passes CX X E) (hg:Gl X x) (ha:RA X E (e::es) f) (hdb:(x==("__debug__":Str))=false:=by decide) (he:starEach (e::es) X.env=(false,eval e X.env)::starEach es X.env:=by rfl) (hpl:(backTo pos (starEach es X.env)).any (·.1)=false:=by rfl):RE X E (.Call (.Name x p) (e::es) [] pos) (zi M f):=by
 obtain⟨fa,fd,ps,F,hb,hk,hm⟩:=F;refine zL (zfe F hr hg hm hk hb .nil hx ha hdb he hpl) λO H Q ⟨Y,Z,s,r,en,h⟩=>?_;refine vE (k:=λZ xs s1=>M xs s1) r en h _ λvs H2 Y2 s2 ds r2 en2 dn2 stp2 h3=>?_;rw[_aD];exact⟨Y2,s2,ds,r2,dn2,h3⟩
def zF(f g:FS):FS:=λZ s=>(f Z s).bind λfl s1=>match fl with | .nx Z'=>g Z' s1 | fl=>.ok fl s1
def xA:FS:=λZ s=>.ok (.nx Z) s
variable {st:Stmt}{rs:List Stmt}
theorem zil {mg:Gm} {f g:FS} {D:zfP} {O:L2.St} {H:Hp} (h:tS mg E (zF f g) D O H):zl5 (tS mg E f) (tS mg E g) D O H:=by
 obtain⟨Y,Z,s,r,en,h⟩:=h;refine⟨Y,Z,s,r,en,(okR.bind (Dn:=FlD mg) h).imp λfv H1 ⟨Y1,s1,fl,stp,dn,q⟩=>?_⟩;cases fl with
 | nx Z'=> cases fv with
  | nx O'=>exact⟨Y1,Z',s1,stp.rep,dn,q⟩ | _=>exact (show False from dn).elim
 | rt d=> cases fv with
  | rt v=>exact okR.here (b:=FlV.rt v) (Q:=z3k D) (s:=s1) (a:=Fl.rt d) q stp.rep dn | _=>exact (show False from dn).elim
 | bk Z'=> cases fv with
  | bk v=>exact okR.here (b:=FlV.bk v) (Q:=z3k D) (s:=s1) (a:=Fl.bk Z') q stp.rep dn | _=>exact (show False from dn).elim
 | ct Z'=> cases fv with
  | ct v=>exact okR.here (b:=FlV.ct v) (Q:=z3k D) (s:=s1) (a:=Fl.ct Z') q stp.rep dn | _=>exact (show False from dn).elim
theorem yQ:RSs X E [] xA:=zb9 zf0 λD O H ⟨Y,Z,s,r,en,h⟩=>okR.here (b:=FlV.nx O) h r en
theorem zg{f g:FS}(h1:RS X E st f)(h2:RSs X E rs g):RSs X E (st::rs) (zF f g):=zb9 (zcd h1 h2) λD O H h=>zil h
theorem zp{f:FS}(h1:RS X E st f):RSs X E [st] f:=zeY h1
def fNo:FS:=λ_ _=>.no
theorem z6U:RS X E st fNo:=vA zcn λD O H ⟨_,_,_,_,_,h⟩=>h
def wy(f:FE):FS:=λZ s=>(f Z s).bind λ_ s1=>.ok (.nx Z) s1
theorem wc {f:FE} (he:RE X E e f) (hs:swapsWith e none pos.line X.env=pure false:=by rfl):RS X E (.Expr e pos) (wy f):= vA (zfX he hs) λD O H ⟨Y,Z,s,r,en,h⟩=>zO (k:=λZ _ s1=>R.ok (Fl.nx Z) s1) r en h _ λv H1 Y1 s1 d r1 en1 dn stp h1=>okR.here (b:=FlV.nx O) (Q:=z3k D) h1 r1 en1
def wK(f:FE):FS:=λZ s=>(f Z s).bind λd s1=>.ok (.rt d) s1
theorem yf {f:FE} (he:RE X E e f):RS X E (.Return (some e) pos) (wK f):= vA (zhy he) λD O H ⟨Y,Z,s,r,en,h⟩=>zO (k:=λZ d s1=>R.ok (Fl.rt d) s1) r en h _ λv H1 Y1 s1 d r1 en1 dn stp h1=>okR.here (b:=FlV.rt v) (Q:=z3k D) h1 r1 dn
def fIf(ft:FT)(f g:FS):FS:=λZ s=>(ft Z s).bind λx s1=>if x=true then f Z s1 else g Z s1
theorem z1d{ft:FT}{f g:FS}{as bs:List Stmt}(hc:RT X E c ft)(ha:RSs X E as f)(hb:RSs X E bs g):RS X E (.If c as bs pos) (fIf ft f g):= vA (zkX hc ha hb) λD O H ⟨Y,Z,s,r,en,h⟩=>z2g (k:=λZ x s1=>if x=true then f Z s1 else g Z s1) r en h _ λv H1 Y1 s1 r1 en1 stp h1=>by cases v with
  | true=>rw[_e rfl]at h1 ⊢;exact⟨Y1,Z,s1,r1,en1,h1⟩ | false=>rw[_j (by decide)]at h1 ⊢;exact⟨Y1,Z,s1,r1,en1,h1⟩
abbrev FG:=D->Ev->Sto->R Ev
def tG(mg:Gm)(E:XK)(f:FG):TG:=λv O H Q=>∃Y Z s d,Rep mg H Y s/\ua mg H Y Z O/\Den mg H Y d v/\okR mg E H Y (ua mg) (f d Z s) (λO' H'=>Q O' H')
def RG(X:Cx)(E:XK)(tg:Expr)(f:FG):Prop:=PG X tg (tG (gm X) E f)
theorem zdV{tg:Expr}{t t':TG}(h:PG X tg t)(i:∀v O H Q,t' v O H Q->t v O H Q):PG X tg t':=λpins s O H v u Q I r q=>h pins s O H v u Q I r (i v O H Q q)
def kb(i:Nat):FG:=λd Z s=>.ok (Z.set i (some d)) s
theorem z42(i:Nat){x:Str}(hN:X.N.Nodup)(hi:X.N[i]? = some x:=by rfl)(hx:Loc X.env.scope x:=by first | exact Or.inl rfl | exact Or.inr rfl)(hf:X.fn x=true\/X.env.scope.names.lookup x=some .local:=by first | exact .inl rfl | exact .inr rfl | assumption):RG X E (.Name x pos) (kb i):= zdV (yJ hN hi hx hf) λv O H Q ⟨Y,Z,s,d,r,en,dn,h⟩=>okR.here (b:=O.set i (some v)) h r (en.set dn i)
noncomputable def kw(i j:Nat):FG:=λd Z s=>match d with | .tup [x,y]=>.ok ((Z.set i (some x)).set j (some y)) s | _=>.no
theorem z3F(i j:Nat){x y:Str}{px py:Pos}{kt:Nat}(hc:X.calm=true)(hN:X.N.Nodup)(hi:X.N[i]? = some x:=by rfl)(hj:X.N[j]? = some y:=by rfl)(hx:Loc X.env.scope x:=by first | exact Or.inl rfl | exact Or.inr rfl)(hy:Loc X.env.scope y:=by first | exact Or.inl rfl | exact Or.inr rfl) (hf:X.fn x=true\/X.env.scope.names.lookup x=some .local:=by first | exact .inl rfl | exact .inr rfl | assumption)(hf':X.fn y=true\/X.env.scope.names.lookup y=some .local:=by first | exact .inl rfl | exact .inr rfl | assumption): RG X E (.Tuple [.Name x px,.Name y py] kt pos) (kw i j):= zdV (zev hc (z1C (yJ hN hi hx hf) (z1C (yJ hN hj hy hf') zbr))) λv O H Q ⟨Y,Z,s,d,r,en,dn,h⟩=>by
  unfold kw at h;split at h
  ·rename_i d1 d2;obtain⟨p,vs,rfl,q1,q2⟩:=jZ (K:=X.K) dn;obtain⟨v1,v2,rfl,e1,e2⟩:=z6N q2;exact⟨p,[v1,v2],rfl,q1,rfl,v1,[v2],rfl,v2,[],rfl,rfl,okR.here h r ((en.set e1 i).set e2 j)⟩
  ·exact h.elim
def wj(i:Nat)(f:FE):FS:=λZ s=>(f Z s).bind λd s1=>.ok (.nx (Z.set i (some d))) s1
theorem yG (i:Nat) {x:Str} {pos':Pos} {f:FE} (hN:X.N.Nodup) (he:RE X E e f) (hi:X.N[i]? = some x:=by rfl) (hx:Loc X.env.scope x:=by first | exact Or.inl rfl | exact Or.inr rfl) (hs:swapsWith e (some (.Name x pos')) pos.line X.env=pure false:=by rfl) (hf:X.fn x=true\/X.env.scope.names.lookup x=some .local:=by first | exact .inl rfl | exact .inr rfl | assumption):RS X E (.Assign [.Name x pos'] e pos) (wj i f):= vA (zj5 hN hi hx he hs hf) λD O H ⟨Y,Z,s,r,en,h⟩=>zO (k:=λZ d s1=>R.ok (Fl.nx (Z.set i (some d))) s1) r en h _ λv H1 Y1 s1 d r1 en1 dn stp h1=>okR.here (b:=FlV.nx (O.set i (some v))) (Q:=z3k D) h1 r1 (en1.set dn i)
def zgM(f:FE)(g:FG):FS:=λZ s=>(f Z s).bind λd s1=>(g d Z s1).bind λZ' s2=>.ok (.nx Z') s2
theorem z9V {tg:Expr} {f:FE} {g:FG} (he:RE X E e f) (hg:RG X E tg g) (hs:swapsWithSole [tg] e pos.line X.env=pure false:=by rfl) (hw:swappedStores [tg] e X.env=pure none:=by rfl) (h1:(assignEach [tg] X.env).map (·.2)=[assign tg X.env]:=by rfl):RS X E (.Assign [tg] e pos) (zgM f g):= vA (zeg he hg hs hw h1) λD O H ⟨Y,Z,s,r,en,h⟩=>zO (k:=λZ d s1=>(g d Z s1).bind λZ' s2=>R.ok (Fl.nx Z') s2) r en h _ λv H1 Y1 s1 d r1 en1 dn stp h1=> ⟨Y1,Z,s1,d,r1,en1,dn,(okR.bind (Dn:=ua (gm X)) h1).imp λO' H' ⟨Y2,s2,Z',stp2,en2,q⟩=>okR.here (b:=FlV.nx O') (Q:=z3k D) q stp2.rep en2⟩
noncomputable def zkV(i j:Nat)(f:FA):FS:=λZ s=>(f Z s).bind λds s1=>match ds with | [x,y]=>.ok (.nx ((Z.set i (some x)).set j (some y))) s1 | _=>.no
theorem zkT (i j:Nat) {x y:Str} {px py pt:Pos} {kt k2:Nat} {pt2:Pos} {f:FA} (hc:X.calm=true) (hN:X.N.Nodup) (ha:RA X E [a,b] f) (hi:X.N[i]? = some x:=by rfl) (hj:X.N[j]? = some y:=by rfl) (hij:i≠j:=by decide) (hx:X.env.scope.names.lookup x=some .local:=by rfl) (hy:X.env.scope.names.lookup y=some .local:=by rfl) (hw:swappedStores [.Tuple [.Name x px,.Name y py] kt pt] (.Tuple [a,b] k2 pt2) X.env=pure (some [x,y]):=by rfl) (hs:swapsWithSole [.Tuple [.Name x px,.Name y py] kt pt] (.Tuple [a,b] k2 pt2) pos.line X.env=pure false:=by rfl): RS X E (.Assign [.Tuple [.Name x px,.Name y py] kt pt] (.Tuple [a,b] k2 pt2) pos) (zkV i j f):= vA (zi9 hc hN hi hj hij hx hy ha hw hs) λD O H ⟨Y,Z,s,r,en,h⟩=>by
  refine vE (k:=λZ ds s1=>match ds with | [x,y]=>R.ok (Fl.nx ((Z.set i (some x)).set j (some y))) s1 | _=>.no) r en h _ λvs H1 Y1 s1 ds r1 en1 dn stp h1=>?_;match ds,dn,h1 with
  | [],_,h1=>exact h1.elim | [_],_,h1=>exact h1.elim | _::_::_::_,_,h1=>exact h1.elim | [d1,d2],dn,h1=>
   obtain⟨v1,v2,rfl,e1,e2⟩:=z6N dn;exact⟨v1,v2,rfl,okR.here (b:=FlV.nx ((O.set i (some v1)).set j (some v2))) (Q:=z3k D) h1 r1 ((en1.set e1 i).set e2 j)⟩
noncomputable def z69(fo fi fv:FE):FS:=λZ s=>(fv Z s).bind λd s1=>(fo Z s1).bind λo s2=>(fi Z s2).bind λi s3=>match o,i with
 | .loc l,.int k=>match s3[l]? with
  | some xs=>match ixN xs.length k with
   | some j=>if d.flat=true then .ok (.nx Z) (s3.set l (xs.set j d)) else .no | none=>.no
  | none=>.no
 | _,_=>.no
theorem z5s:∀{xs:List D}{d:D}{j:Nat},D.flat.flats xs=true->d.flat=true->D.flat.flats (xs.set j d)=true
 | [],_,_,_,_=>rfl | x::xs,d,0,h,hd=>by
  simp only[D.flat.flats,_z,_bg]at h ⊢;exact⟨hd,h.2⟩ | x::xs,d,j+1,h,hd=>by
  simp only[D.flat.flats,_z,_bh]at h ⊢;exact⟨h.1,z5s h.2 hd⟩
theorem z19:∀{xs ys:List D},D.flat.flats xs=true->D.flat.flats ys=true->D.flat.flats (xs++ys)=true
 | [],_,_,h=>h | x::xs,ys,h,h'=>by
  simp only[D.flat.flats,_z,_bz]at h ⊢;exact⟨h.1,z19 h.2 h'⟩
theorem z8s {o i:Expr} {p1:Pos} {fo fi fv:FE} (hv:RE X E e fv) (ho:RE X E o fo) (hi:RE X E i fi) (ha:∀v,assign (.Subscript o i p1) X.env v=(do
   let ov <- holding [v] (eval o X.env) let iv <- holding [v,ov] (eval i X.env)
   standAt p1
   holding [v,ov,iv] (setItem ov iv v)
   release [v,ov,iv] []):=by intro _;rfl) (hs:swapsWithSole [.Subscript o i p1] e pos.line X.env=pure false:=by rfl) (hw:swappedStores [.Subscript o i p1] e X.env=pure none:=by rfl) (h1:(assignEach [.Subscript o i p1] X.env).map (·.2)=[assign (.Subscript o i p1) X.env]:=by rfl):RS X E (.Assign [.Subscript o i p1] e pos) (z69 fo fi fv):= vA (zeg hv (zgU ho hi set_list ha) hs hw h1) λD O H ⟨Y,Z,s,r,en,h⟩=>by
  unfold z69 at h;refine⟨Y,Z,s,r,en,(okR.bind (Dn:=Den (gm X)) h).imp λv H1 ⟨Y1,s1,d,stp,dn,h1⟩=>?_⟩;refine⟨Y1,Z,s1,stp.rep,en.mono stp,(okR.bind (Dn:=Den (gm X)) h1).imp λov H2 ⟨Y2,s2,od,stp2,dn2,h2⟩=>?_⟩;refine⟨Y2,Z,s2,stp2.rep,(en.mono stp).mono stp2,(okR.bind (Dn:=Den (gm X)) h2).imp λiv H3 ⟨Y3,s3,id,stp3,dn3,h3⟩=>?_⟩;have en3:=((en.mono stp).mono stp2).mono stp3;have dv:=(dn.mono stp2).mono stp3;have dov:=dn2.mono stp3;cases od with
  | loc l=> cases id with
   | int k=>
    simp only at h3;split at h3
    ·rename_i xs ex;split at h3
     ·rename_i j ej;split at h3
      ·rename_i hf;cases zT dn3;simp only[Den]at dov;obtain⟨a,rfl,e1,ka⟩:=dov;obtain⟨vs,q1,q2⟩:=stp3.rep.at_ ex e1 ka;have stp4:=xx.put (l:=l) (xs:=xs.set j d) stp3.rep e1 ka (q2.set j dv) (z5s (stp3.rep.flat xs (_C ex)) hf);exact⟨a,vs,k,j,rfl,rfl,q1,by rw[q2.length];exact ej,h3 (.nx O) _ _ stp4 (en3.mono stp4)⟩
      ·exact h3.elim
     ·exact h3.elim
    ·exact h3.elim | _=>exact h3.elim
  | _=>exact h3.elim
noncomputable def zgQ(fo fv:FE):FE:=λZ s=>(fo Z s).bind λo s1=>match o with
 | .loc l=>(fv Z s1).bind λd s2=>match s2[l]? with
  | some xs=>if d.flat=true/\xs.length<cap then .ok .non (s2.set l (xs++[d])) else .no | none=>.no
 | _=>.no
theorem z55 {o:Expr} {apos:Pos} {fo fv:FE} (ho:RE X E o fo) (hv:RE X E e fv) (hbase:attributeBase o "append" X.env (eval o X.env)=eval o X.env:=by rfl) (hfew:((backTo pos (starEach [e] X.env)).all (λx=>!x.1)&&(backToKw pos (keywordEach [] X.env)).all (λx=>x.1.isSome) && decide ([e].length+([]:List Keyword).length+(if ([]:List Keyword).isEmpty then 0 else 1)<30))=true:=by rfl) (hline:(apos.endLine==pos.line)=true:=by rfl) (hs:starEach [e] X.env=(false,eval e X.env)::starEach [] X.env:=by rfl) (hplain:(backTo pos (starEach [] X.env)).any (·.1)=false:=by rfl): RE X E (.Call (.Attribute o "append" apos) [e] [] pos) (zgQ fo fv):= zL (zgp _bR PySem.F.slot_list_append PySem.F.type_list_append zb7 ho (wS hv kY hs) hbase hfew hline hs hplain) λO H Q ⟨Y,Z,s,r,en,h⟩=>by
  unfold zgQ at h;refine⟨Y,Z,s,r,en,(okR.bind (Dn:=Den (gm X)) h).imp λov H1 ⟨Y1,s1,od,stp,dn,h1⟩=>?_⟩;cases od with
  | loc l=>
   simp only at h1;have hty:tyV X.K "list" ov H1:=by
    simp only[Den]at dn;obtain⟨a,rfl,e1,vs,e2⟩:=dn;exact .inl ⟨rfl,vs,.inl (.inl e2)⟩
   refine⟨hty,⟨Y1,Z,s1,stp.rep,en.mono stp,(okR.bind (Dn:=Den (gm X)) h1).imp λv H2 ⟨Y2,s2,d,stp2,dn2,h2⟩=>?_⟩⟩;split at h2
   ·rename_i xs ex;split at h2
    ·rename_i hf;have dov:=dn.mono stp2;simp only[Den]at dov;obtain⟨a,rfl,e1,ka⟩:=dov;obtain⟨vs,q1,q2⟩:=stp2.rep.at_ ex e1 ka;have stp3:=xx.put (l:=l) (xs:=xs++[d]) stp2.rep e1 ka (q2.append (zu.one dn2)) (z19 (stp2.rep.flat xs (_C ex)) (by simp[D.flat.flats,hf.1]));refine⟨a,vs,v,rfl,rfl,q1,by rw[q2.length];exact zj3 hf.2,h2 .non _ _ stp3 (by simp[Den])⟩
    ·exact h2.elim
   ·exact h2.elim | _=>exact h1.elim
end
end Dd
namespace L2
theorem ziB{X:Cx}{tg l:Expr}{tl:TE}(hl:PE X l tl):PI X tg l (λO H R=>tl O H λx H1=>∃a,x=.ref a/\(((∃xs,SqL X.K H1 a xs)/\R (Itl X.K a) H1)\/((∃xs,SqT X.K H1 a xs)/\R (Itt X.K a) H1))):=by
 intro pins s O H R I h;refine thn (hl pins s O H _ I h) λv s1 ⟨x,H1,I1,r1,q1⟩=>?_;obtain⟨a,e,q⟩:=q1;subst e;cases r1;rcases q with⟨⟨xs,hq⟩,q⟩ | ⟨⟨xs,hq⟩,q⟩
 ·obtain⟨its,rv,p,hz⟩:=I1.list hq;refine wpAny_pyIter_list p.isList ?_;refine⟨s1.heap.objs.size,[s1.heap.objs.size],_,_,H1,rfl,I1.kept (t':=s1.toks) λb o e=>_d _ e,zb3 a _,⟨_,_n _ rfl,rfl,rfl⟩,λb hb=>?_,q⟩;have e:b=s1.heap.objs.size:=by simpa using hb
  subst e;exact I1.fpOk (_h _) (I1.hok.fresh (_h _))
 ·obtain⟨its,rv,p,hz⟩:=I1.tuple hq;refine wpAny_pyIter_tuple (show s1.heap.IsTuple a its.toArray from p) ?_;refine⟨s1.heap.objs.size,[s1.heap.objs.size],_,_,H1,rfl,I1.kept (t':=s1.toks) λb o e=>_d _ e,z9z a _,⟨_,_n _ rfl,rfl,rfl⟩,λb hb=>?_,q⟩;have e:b=s1.heap.objs.size:=by simpa using hb
  subst e;exact I1.fpOk (_h _) (I1.hok.fresh (_h _))
theorem kM.freeze{X:Cx}{pins:List (Addr×Obj)}{O:L2.St}{C:Addr}{Q:VK}{acc:Value}{s':Shared}(h:kM X pins O C (z9O Q) acc s'):kM X pins O C Q acc s':=by
 obtain⟨v,Hf,I,r,⟨a,xs,rfl,ha,q⟩,hm,f⟩:=h;obtain⟨its,n,rv,e,_⟩:=I.lst ha;refine⟨_,_,I.freeze ha e (by intro _ z;cases z) (by intro _ _ z;cases z) (by intro _ z;cases z) (by intro _ z;cases z),r,q _,hm,?_,f.2⟩;rw[zE (λz=>by have:=f.1;rw[z,ha]at this;cases this)];exact f.1
theorem z6Z {X:Cx} {tg iter elt:Expr} {ifs:List Expr} {scope:Scope} {pos spos py:Pos} {wi:TI} {g:TG} {ti:TT} {te:TE} {i:Nat} {y:Str} (N':List Str) (mp:List (Option Nat)) (hN:X.N.Nodup) (hy:X.N[i]? = some y) (hyl:Loc X.env.scope y) (hc:X.calm=true) (hi:PI X tg iter wi) (hg:∀ex s H,PG (zn X N' scope ex s H) tg g) (ht:∀ex s H,z7W (zn X N' scope ex s H) ifs ti) (he:∀ex s H,PE (zn X N' scope ex s H) elt te) (hkd:scope.kind=.function) (hnm:∀y∈scope.names,scope.names.lookup y.1=some y.2) (hfr:∀y∈scope.names,y.2=.free->X.env.kindOf y.1=some .cell\/X.env.kindOf y.1=some .free) (hmp:z1c X.N scope.names N' mp=true) (hs:∀x,foldedSetIterable iter X.env x=pure x:=by intro _;rfl) (hsw:swapsWith (.ListComp elt [⟨tg,iter,ifs,0⟩] scope pos) (some (.Name y py)) spos.line X.env=pure true:=by rfl) (hf:X.fn y=true\/X.env.scope.names.lookup y=some .local:=by first | exact .inl rfl | exact .inr rfl | assumption): PS X (.Assign [.Name y py] (.ListComp elt [⟨tg,iter,ifs,0⟩] scope pos) spos) (λD O H=>zdN wi mp g ti te O H (z9O λv H'=>D.nx (O.set i (some v)) H')):=by
 intro pins s O H D I h;rw[_b4 _ _ _ _ hsw];refine _a (_aH (_a ?_));show wpAny _ X.A (do let _ <- comprehension (.ListComp elt [⟨tg,iter,ifs,0⟩] scope pos) scope X.env _ (newList []) false (eval iter X.env) (some (assign (.Name y py) X.env))) _ _ s;refine _a (_r (_aP (use:=some (assign (.Name y py) X.env)) (Q:=λ_ s'=>SP X pins D .next s') rfl hs (wf λy hy hf=>I.ok.has _ (hfr y hy hf)) hkd (λy hy hl=>by rw[hnm y hy,hl]) (thn (hi pins s O H _ I h) λxv s₁ h₁=>thn h₁ λitv s₂ h₂=>?_)) (λ_ s' hq=>_b (_b hq)) λ_ _ e=>e);obtain⟨it,fp,tn,J,H2,e,I2,T,st2,f2,W,w0,turn⟩:=h₂;subst e;refine z0p (N':=N') (mp:=mp) (O:=O) (pins:=pins) (Q:=z9O λv H'=>D.nx (O.set i (some v)) H') (RR:=λacc C=>compPost (model X.prog X.w) X.A X.xe (some (assign (.Name y py) X.env)) (λ_ s'=>SP X pins D .next s') acc C) hc hg ht he hkd hnm hfr hmp I2 T st2 f2 W w0 turn ?_;intro acc C s' hd;obtain⟨v,Hf,I3,r,q,⟨m,hm⟩,f⟩:=hd.freeze;refine _bU (z06 I3 hN hy hyl r (λs'' I4 ⟨a,sb,ha⟩=>?_) hf);have hC:C≠a:=by
  rcases ha with z | z;·rw[z];exact f.2.1
  ·exact _aM (f.2.2.2.2.1 y a z)
 exact⟨m,hm.sameBut sb hC,λh' sb'=>⟨_,Hf,vX I4 f sb',q⟩⟩
end L2
namespace Dd
open L2
abbrev ItD:=List D×List (Nat×List D)
def okG(g:List (Nat×List D))(all:List D)(s:Sto):Prop:=∀p∈g,s[p.1]? = some p.2
def zc8(mg:Gm)(H0:Hp)(Y0:List Addr)(a:ItD)(J:It):Prop:=∀H Y s,xx mg H0 Y0 H Y s->okG a.2 a.1 s->∀i:Nat, (∀d,a.1[i]? = some d->J.go i H/\∀x H',J.yld i H x H'->∃Y',xx mg H Y H' Y' s/\Den mg H' Y' d x)/\(a.1.length<=i->J.stop i H)
abbrev FI:=Ev->Sto->R ItD
def tI(mg:Gm)(E:XK)(f:FI):TI:=λO H Rr=>∃Y Z s,Rep mg H Y s/\ua mg H Y Z O/\okR mg E H Y (zc8 mg) (f Z s) Rr
def RI(X:Cx)(E:XK)(tg it:Expr)(f:FI):Prop:=PI X tg it (tI (gm X) E f)
section
variable {X:Cx}{E:XK}{e a b c tg:Expr}{es:List Expr}{pos:Pos}{CX:CXT}
theorem z3A{it:Expr}{t t':TI}(h:PI X tg it t)(i:∀O H Q,t' O H Q->t O H Q):PI X tg it t':=λpins s O H Q I q=>h pins s O H Q I (i O H Q q)
noncomputable def vx(f:FE):FI:=λZ s=>(f Z s).bind λd s1=>match d with
 | .tup xs=>.ok (xs,[]) s1 | .lst xs=>.ok (xs,[]) s1 | .loc l=>match s1[l]? with | some xs=>.ok (xs,[(l,xs)]) s1 | none=>.no
 | _=>.no
theorem z3t{f:FE}(h:RE X E e f):RI X E tg e (vx f):=z3A (ziB h) λO H Q ⟨Y,Z,s,r,en,h⟩=>by
 unfold vx at h;refine⟨Y,Z,s,r,en,(okR.bind (Dn:=Den (gm X)) h).imp λv H1 ⟨Y1,s1,d,stp,dn,h1⟩=>?_⟩;have lst:∀(a:Addr)(xs:List D)(g:List (Nat×List D)),(∀H2 Y2 s2,xx (gm X) H1 Y1 H2 Y2 s2->okG g xs s2->∃ws,SqL X.K H2 a ws/\zu (gm X) H2 Y2 xs ws)->zc8 (gm X) H1 Y1 (xs,g) (Itl X.K a):=λa xs g hq H2 Y2 s2 stp2 hg i=>by
  obtain⟨ws,q1,q2⟩:=hq H2 Y2 s2 stp2 hg;refine⟨λd hd=>?_,λhl=>⟨ws,q1,by rw[q2.length];exact hl⟩⟩;obtain⟨v,e1,e2⟩:=q2.get hd;refine⟨⟨ws,v,q1,e1⟩,λx H' ⟨e3,y⟩=>?_⟩;subst e3;have e4:=y ws q1;rw[e1]at e4;cases e4;exact⟨Y2,.refl stp2.rep,e2⟩
 have tup:∀(a:Addr)(xs:List D),(∀H2 Y2 s2,xx (gm X) H1 Y1 H2 Y2 s2->∃ws,SqT X.K H2 a ws/\zu (gm X) H2 Y2 xs ws)->zc8 (gm X) H1 Y1 (xs,[]) (Itt X.K a):=λa xs hq H2 Y2 s2 stp2 hg i=>by
  obtain⟨ws,q1,q2⟩:=hq H2 Y2 s2 stp2;refine⟨λd hd=>?_,λhl=>⟨ws,q1,by rw[q2.length];exact hl⟩⟩;obtain⟨v,e1,e2⟩:=q2.get hd;refine⟨⟨ws,v,q1,e1⟩,λx H' ⟨e3,y⟩=>?_⟩;subst e3;have e4:=y ws q1;rw[e1]at e4;cases e4;exact⟨Y2,.refl stp2.rep,e2⟩
 cases d with
 | tup xs=>
  have h1':okR (gm X) E H1 Y1 (zc8 (gm X)) (.ok (xs,[]) s1) Q:=h1;obtain⟨a,vs,rfl,q1,q2⟩:=jZ (K:=X.K) dn;refine⟨a,rfl,.inr ⟨⟨vs,q1⟩,h1'.here stp.rep (tup a xs λH2 Y2 s2 stp2=>?_)⟩⟩;have dn2:=dn.mono stp2;obtain⟨a',ws,e,q3,q4⟩:=jZ (K:=X.K) dn2;cases e;exact⟨ws,q3,q4⟩ | lst xs=>
  have h1':okR (gm X) E H1 Y1 (zc8 (gm X)) (.ok (xs,[]) s1) Q:=h1;obtain⟨a,vs,rfl,q1,q2⟩:=zG (d:=.lst xs) stp.rep rfl dn;refine⟨a,rfl,.inl ⟨⟨vs,.inl q1⟩,h1'.here stp.rep (lst a xs [] λH2 Y2 s2 stp2 _=>?_)⟩⟩;obtain⟨a',ws,e,q3,q4⟩:=zG (d:=.lst xs) stp2.rep rfl (dn.mono stp2);cases e;exact⟨ws,.inl q3,q4⟩ | loc l=>
  simp only at h1;split at h1
  ·rename_i xs ex;obtain⟨a,vs,rfl,q1,q2⟩:=zG (d:=.loc l) stp.rep ex dn;refine⟨a,rfl,.inl ⟨⟨vs,.inl q1⟩,h1.here stp.rep (lst a xs [(l,xs)] λH2 Y2 s2 stp2 hg=>?_)⟩⟩;obtain⟨a',ws,e,q3,q4⟩:=zG (d:=.loc l) stp2.rep (hg (l,xs) (by simp)) (dn.mono stp2);cases e;exact⟨ws,.inl q3,q4⟩
  ·exact h1.elim | _=>exact h1.elim
end
section
variable {X:Cx}{E:XK}{e a b c tg:Expr}{es:List Expr}{pos:Pos}{CX:CXT}
def vb(n:Nat):List D:=(List.range n).map λ(k:Nat)=>D.int ((k:Nat):Int)
noncomputable def z6T(f:FA):FI:=λZ s=>(f Z s).bind λds s1=>match ds with
 | [.int j]=>if -(2 ^ 62)<=j/\j<2 ^ 62 then .ok (vb j.toNat,[]) s1 else .no | _=>.no
theorem km{p:Pos}{f:FA}(hg:Gl X "range")(hm:X.mg "range"=none)(ha:RA X E [a] f)(hs:starEach [a] X.env=[(false,eval a X.env)]:=by rfl):RI X E tg (.Call (.Name "range" p) [a] [] pos) (z6T f):= z3A (zbV hg hm ha hs) λO H Q ⟨Y,Z,s,r,en,h⟩=>by
  unfold z6T at h;refine⟨Y,Z,s,r,en,(okR.bind (Dn:=zu (gm X)) h).imp λvs H1 ⟨Y1,s1,ds,stp,dn,h1⟩=>?_⟩;split at h1
  ·rename_i j;split at h1
   ·rename_i hj;obtain⟨v,rfl,d1⟩:=z36 dn;cases zT d1;refine⟨j,rfl,hj.1,hj.2,h1.here stp.rep λH2 Y2 s2 stp2 _ i=>⟨λd hd=>?_,λhl=>?_⟩⟩
    ·have hi:i<j.toNat:=by
      have:=(_c.mp hd).1;simpa[vb] using this
     refine⟨hi,λx H' ⟨e1,e2⟩=>?_⟩;subst e1 e2;refine⟨Y2,.refl stp2.rep,?_⟩;have e3:d=D.int i:=by
      simp only[vb,_V,_cq hi,_as,_D]at hd;exact hd.symm
     rw[e3];simp[Den]
    ·have:(vb j.toNat).length=j.toNat:=by simp[vb]
     show j.toNat<=i;rw[<- this];exact hl
   ·exact h1.elim
  ·exact h1.elim
open Classical in
noncomputable def vk(g:List (Nat×List D))(all:List D)(body:D->Ev->Sto->R Fl):List D->Ev->Sto->R Fl
 | [],Z,s=>if okG g all s then .ok (.nx Z) s else .no | x::xs,Z,s=>if okG g all s then (body x Z s).bind λfl s1=>match fl with
   | .nx Z'=>vk g all body xs Z' s1 | .ct Z'=>vk g all body xs Z' s1 | .bk Z'=>.ok (.nx Z') s1 | .rt d=>.ok (.rt d) s1 else .no
noncomputable def zaA(fi:FI)(fg:FG)(fb:FS):FS:=λZ s=>(fi Z s).bind λit s1=>vk it.2 it.1 (λd Z s=>(fg d Z s).bind λZ' s'=>fb Z' s') it.1 Z s1
theorem z7k {iter:Expr} {body:List Stmt} {fi:FI} {fg:FG} {fb:FS} (hp:PassesOwn (model X.prog X.w) X.A X.env X.xe) (hc:X.calm=true) (hi:RI X E tg iter fi) (hg:RG X E tg fg) (hb:RSs X E body fb) (hs:∀x,foldedSetIterable iter X.env x=pure x:=by intro _;rfl):RS X E (.For tg iter body [] pos) (zaA fi fg fb):= vA (zic hp hc hi hg hb hs) λD O H ⟨Y,Z,s,r,en,h⟩=>by
  unfold zaA at h;refine⟨Y,Z,s,r,en,(okR.bind (Dn:=zc8 (gm X)) h).imp λJ H1 ⟨Y1,s1,it,stp,ok,h1⟩=>?_⟩;obtain⟨items,g⟩:=it;simp only at h1;refine⟨λi m O H=>∃Y Z s,xx (gm X) H1 Y1 H Y s/\ua (gm X) H Y Z O/\m=items.length-i/\i<=items.length/\ okR (gm X) E H Y (FlD (gm X)) (vk g items (λd Z s=>(fg d Z s).bind λZ' s'=>fb Z' s') (items.drop i) Z s) (z3k D), ⟨items.length,Y1,Z,s1,.refl stp.rep,en.mono stp,by simp,_am _,by simpa using h1⟩,?_⟩;rintro i m O H ⟨Y2,Z2,s2,stp2,en2,rfl,hil,h2⟩;by_cases hlt:i<items.length
  ·right;rw[_aN hlt,vk]at h2;split at h2
   ·rename_i hG;obtain⟨go,yl⟩:=((ok H Y2 s2 stp2 hG i).1 items[i] (_f hlt));refine⟨go,λO' H'=>∃Y Z s,xx (gm X) H1 Y1 H' Y s/\ua (gm X) H' Y Z O'/\okR (gm X) E H' Y (FlD (gm X)) (vk g items (λd Z s=>(fg d Z s).bind λZ' s'=>fb Z' s') (items.drop (i+1)) Z s) (z3k D), λO' H' ⟨Y3,Z3,s3,q1,q2,q3⟩=>⟨items.length-(i+1),by omega,Y3,Z3,s3,q1,q2,rfl,hlt,q3⟩,λx H' y=>?_⟩;obtain⟨Y3,stp3,dn3⟩:=yl x H' y;have h3:=okR.rebase h2 stp3;have h4:=okR.bind (Dn:=FlD (gm X)) h3;refine⟨Y3,Z2,s2,items[i],stp3.rep,en2.mono stp3,dn3,(okR.bind (Dn:=ua (gm X)) h4).imp λO5 H5 ⟨Y5,s5,Z5,stp5,en5,h5⟩=>?_⟩;refine⟨Y5,Z5,s5,stp5.rep,en5,h5.imp λfv H6 ⟨Y6,s6,fl,stp6,dn6,q6⟩=>?_⟩;have all6:xx (gm X) H1 Y1 H6 Y6 s6:=(stp2.trans stp3).trans stp6;cases fl with
    | nx Z'=> cases fv with
     | nx O'=>exact⟨Y6,Z',s6,all6,dn6,q6⟩ | _=>exact (show False from dn6).elim
    | ct Z'=> cases fv with
     | ct O'=>exact⟨Y6,Z',s6,all6,dn6,q6⟩ | _=>exact (show False from dn6).elim
    | bk Z'=> cases fv with
     | bk O'=>exact okR.here (b:=FlV.nx O') (Q:=z3k D) (a:=Fl.nx Z') (s:=s6) q6 stp6.rep dn6 | _=>exact (show False from dn6).elim
    | rt d=> cases fv with
     | rt v=>exact okR.here (b:=FlV.rt v) (Q:=z3k D) (a:=Fl.rt d) (s:=s6) q6 stp6.rep dn6 | _=>exact (show False from dn6).elim
   ·exact h2.elim
  ·left;have e:i=items.length:=by omega
   subst e;rw[_ca,vk]at h2;split at h2
   ·rename_i hG;exact⟨(ok H Y2 s2 stp2 hG _).2 (_h _),okR.here (b:=FlV.nx O) (Q:=z3k D) h2 stp2.rep en2⟩
   ·exact h2.elim
end
end Dd
namespace Zz
def Sit(b:Bool)(h:Heap)(it l:Addr)(k:Nat):Prop:=match b with
 | true=>h.IsListIter it l k | false=>h.IsTupleIter it l k
def Sco(b:Bool)(h:Heap)(l:Addr)(xs:Array Value):Prop:=match b with
 | true=>h.IsList l xs | false=>h.IsTuple l xs
theorem Sit.to{b:Bool}{h h':Heap}{it l:Addr}{k:Nat}(x:Sit b h it l k)(e:∀o,h.get? it=some o->h'.get? it=some o):Sit b h' it l k:=by cases b with
 | true=>obtain⟨o,ho,r⟩:=x;exact⟨o,e _ ho,r⟩ | false=>obtain⟨o,ho,r⟩:=x;exact⟨o,e _ ho,r⟩
theorem Sco.to{b:Bool}{h h':Heap}{l:Addr}{xs:Array Value}(x:Sco b h l xs)(e:∀o,h.get? l=some o->h'.get? l=some o):Sco b h' l xs:=by cases b with
 | true=>obtain⟨o,ho,r⟩:=x;exact⟨o,e _ ho,r⟩ | false=>obtain⟨o,ho,r⟩:=x;exact⟨o,e _ ho,r⟩
theorem Sit.lt{b:Bool}{h:Heap}{it l:Addr}{k:Nat}(x:Sit b h it l k):it<h.objs.size:=by cases b with
 | true=>obtain⟨o,ho,r⟩:=x;exact _m ho | false=>obtain⟨o,ho,r⟩:=x;exact _m ho
theorem Sit.ob{b:Bool}{h:Heap}{it l:Addr}{k:Nat}(x:Sit b h it l k):∃o,h.get? it=some o/\∀v,o.data≠.cell v:=by cases b with
 | true=>obtain⟨o,ho,_,d⟩:=x;exact⟨o,ho,λv z=>by rw[d]at z;cases z⟩ | false=>obtain⟨o,ho,_,d⟩:=x;exact⟨o,ho,λv z=>by rw[d]at z;cases z⟩
section
variable {P:Program}{w:World}{A:Around}{E:Value->Shared->Prop}{s:Shared}
theorem zhl{it l:Addr}{k:Nat}{xs:Array Value}{x:Value}{R:Value->Shared->Prop}(h1:s.heap.IsTupleIter it l k)(h2:s.heap.IsTuple l xs)(e:xs[k]? = some x) (q:∀h',h'.IsTupleIter it l (k+1)->Heap.SameBut it s.heap h'->R x {s with heap:=h'}):wpAny (model P w) A (Builtin.SmallTypes.nextOf (.ref it)) R E s:=by
 obtain⟨o,ho,hc,hd⟩:=id h1;obtain⟨ol,hol,_,nl,hdl⟩:=h2;unfold Builtin.SmallTypes.nextOf;refine _a (_P (name:=Str.ofString "__next__") h1.typeIs _aT (_T _aT h1.typeIs F.entry_tuple_iterator_next ?_ (F.args_tuple_iterator_next_1 _)));show wpAny _ _ (field (.ref it) 0 >>= _) _ _ s;refine _a (_W ho hd (x:=.ref l) rfl ?_);show wpAny _ _ (if (Value.ref l==Value.none)=true then _ else _) _ _ s;rw[_j (show ¬ ((Value.ref l==Value.none)=true) from _R)];show wpAny _ _ (field (.ref it) 1 >>= _) _ _ s;refine _a (_W ho hd (x:=.int k 0) rfl ?_);show wpAny _ _ (seqItems? (.ref l) >>= _) _ _ s;refine _a (_aC hol hdl ?_);simp only[_bs,e];refine _a (_cA ho hd (by simp) (_b ⟨x,rfl,_b (q _ ?_ (_a6 ..))⟩));exact⟨_,_aV _ ho (Obj.isFreed_of_fields (Obj.data_mapFields hd _)),(Obj.cls_mapFields ..).trans hc,by rw[Obj.data_mapFields hd];simp[rawInt]⟩
theorem z9d {it l:Addr} {k:Nat} {xs:Array Value} {R:Value->Shared->Prop} (hh:A.handled=none) (h1:s.heap.IsTupleIter it l k) (h2:s.heap.IsTuple l xs) (e:xs[k]? = none) (q:∀h' e,Heap.ExtBut it s.heap h'->(∃o,h'.get? e=some o/\o.cls=.type "StopIteration")->E (.ref e) {s with heap:=h'}):wpAny (model P w) A (Builtin.SmallTypes.nextOf (.ref it)) R E s:=by
 obtain⟨o,ho,hc,hd⟩:=id h1;obtain⟨ol,hol,_,nl,hdl⟩:=h2;unfold Builtin.SmallTypes.nextOf;refine _a (_P (name:=Str.ofString "__next__") h1.typeIs _aT (_T _aT h1.typeIs F.entry_tuple_iterator_next ?_ (F.args_tuple_iterator_next_1 _)));show wpAny _ _ (field (.ref it) 0 >>= _) _ _ s;refine _a (_W ho hd (x:=.ref l) rfl ?_);show wpAny _ _ (if (Value.ref l==Value.none)=true then _ else _) _ _ s;rw[_j (show ¬ ((Value.ref l==Value.none)=true) from _R)];show wpAny _ _ (field (.ref it) 1 >>= _) _ _ s;refine _a (_W ho hd (x:=.int k 0) rfl ?_);show wpAny _ _ (seqItems? (.ref l) >>= _) _ _ s;refine _a (_aC hol hdl ?_);simp only[_bs,e];refine _a (_a2 (_a (_cA ho hd (by simp) ?_)));show wpAny _ _ (newExc (.type "StopIteration") [] >>= _) _ _ _;refine _a ?_;simp only[newExc,newTuple];refine _a (_U ?_ (by size_fits));refine _a (m:=firstArgMember _ _) (wpAny_of_eq (a:=Value.none) (by first | rfl | (simp only[firstArgMember];rfl)) ?_);refine _U ?_ (by size_fits);simp only[raiseNew];refine _a (wpAny_handled ?_);first | rw[show A.in1.handled=none from hh] | rw[hh]
 refine _a (_b (wpAny_throw ?_));exact q _ _ (((_a6 ..).extBut.push _).push _) ⟨_,_n _ rfl,rfl⟩
theorem nx{b:Bool}{it l:Addr}{k:Nat}{xs:Array Value}{x:Value}{R:Value->Shared->Prop}(h1:Sit b s.heap it l k)(h2:Sco b s.heap l xs)(e:xs[k]? = some x) (q:∀h',Sit b h' it l (k+1)->Heap.SameBut it s.heap h'->R x {s with heap:=h'}):wpAny (model P w) A (Builtin.SmallTypes.nextOf (.ref it)) R E s:=by cases b with
 | true=>exact wpAny_nextOf_list_item h1 h2 e q | false=>exact zhl h1 h2 e q
theorem zas {b:Bool} {it l:Addr} {k:Nat} {xs:Array Value} {R:Value->Shared->Prop} (hh:A.handled=none) (h1:Sit b s.heap it l k) (h2:Sco b s.heap l xs) (e:xs[k]? = none) (q:∀h' e,Heap.ExtBut it s.heap h'->(∃o,h'.get? e=some o/\o.cls=.type "StopIteration")->E (.ref e) {s with heap:=h'}):wpAny (model P w) A (Builtin.SmallTypes.nextOf (.ref it)) R E s:=by cases b with
 | true=>exact wpAny_nextOf_list_end hh h1 h2 e q | false=>exact z9d hh h1 h2 e q
theorem zy{a:Addr}{h h':Heap}(hs:Heap.SameBut a h h'){b:Addr}{o:Obj}(n:b≠a)(e:h.get? b=some o):h'.get? b=some o:=hs.extBut _ _ n e
theorem zf5 {z TI TO i1 i2 l1 l2:Addr} {b1 b2:Bool} {k:Nat} {xs ys:Array Value} {x y a b:Value} {Q:Option Value->Shared->Prop} (D:ZipApart z TI TO i1 i2 l1 l2) (hz:IsZip s.heap z TI TO .none) (hTI:IsPair s.heap TI (.ref i1) (.ref i2)) (hTO:IsPair s.heap TO a b) (h1:Sit b1 s.heap i1 l1 k) (h2:Sit b2 s.heap i2 l2 k) (c1:Sco b1 s.heap l1 xs) (c2:Sco b2 s.heap l2 ys) (ex:xs[k]? = some x) (ey:ys[k]? = some y) (q:∀h',IsZip h' z TI TO (rawInt s.heap.objs.size)->IsPair h' TO x y->Sit b1 h' i1 l1 (k+1)->Sit b2 h' i2 l2 (k+1)->IsPair h' s.heap.objs.size x y->h'.objs.size=s.heap.objs.size+1-> (∀c o,c≠z->c≠TO->c≠i1->c≠i2->s.heap.get? c=some o->h'.get? c=some o)->Q (some (.ref s.heap.objs.size)) {s with heap:=h'}):wpAny (model P w) A (pyNext (.ref z)) Q E s:=by
 have hT:s.TypeIs (.ref z) "zip":=⟨_,hz,rfl⟩;unfold pyNext;refine _a (_bH (_P (name:=Str.ofString "__next__") hT _cm (_T _cm hT F.entry_zip_next (Q:=λv s'=>wpAny (model P w) A (pure (some v)) Q E s') ?_ (F.args_zip_next_1 _))));show wpAny _ _ (field (.ref z) 2 >>= _) _ _ _;refine _a (_W hz rfl (x:=.bool false) rfl ?_);show wpAny _ _ (field (.ref z) 3 >>= _) _ _ _;refine _a (_W hz rfl (x:=.ref TI) rfl ?_);refine _a (_aC hTI rfl ?_);show wpAny _ _ (Builtin.SmallTypes.ownedTupleIsFree (.ref z) >>= _) _ _ _;refine _a ?_;unfold Builtin.SmallTypes.ownedTupleIsFree;refine _a (_W hz rfl (x:=.none) rfl (_b ?_));simp only[_G];refine _a (_a2 ?_);refine _a (_W hz rfl (x:=.ref TO) rfl ?_);refine _a (_Z hz (by simp) λg1 z1 s1=>?_);replace z1:IsZip g1 z TI TO .ellipsis:=z1;refine _a ?_;simp only[List.zipIdx_cons,List.zipIdx_nil,List.forIn_cons,List.forIn_nil];refine _a (_a (_cU ?_));show wpAny _ _ (Builtin.SmallTypes.nextOf (.ref i1) >>= _) _ _ _;refine _a (nx (h1.to λo e=>zy s1 D.i1z e) (c1.to λo e=>zy s1 D.l1z e) ex λg2 t2 s2=>_b ?_);have o2:IsPair g2 TO a b:=zy s2 D.TOi1 (zy s1 D.TOz hTO);refine _a (_aC o2 rfl ?_);refine _a (_cf o2 λg3 o3 s3=>?_);replace o3:IsPair g3 TO x b:=o3;refine _a (_bv (_b ?_));refine _a (_a (_cU ?_));show wpAny _ _ (Builtin.SmallTypes.nextOf (.ref i2) >>= _) _ _ _;refine _a (nx (h2.to λo e=>zy s3 D.TOi2.symm (zy s2 D.i12.symm (zy s1 D.i2z e))) (c2.to λo e=>zy s3 D.l2TO (zy s2 D.l2i1 (zy s1 D.l2z e))) ey λg4 t4 s4=>_b ?_);have o4:IsPair g4 TO x b:=zy s4 D.TOi2 o3;refine _a (_aC o4 rfl ?_);refine _a (_cf o4 λg5 o5 s5=>?_);replace o5:IsPair g5 TO x y:=o5;refine _a (_bv (_b (_b ?_)));refine _a (_aC o5 rfl ?_);refine _a (wpAny_newTuple ?_);have sz:g5.objs.size=s.heap.objs.size:=by rw[s5.1,s4.1,s3.1,s2.1,s1.1]
 have z5:IsZip g5 z TI TO .ellipsis:=zy s5 D.TOz.symm (zy s4 D.i2z.symm (zy s3 D.TOz.symm (zy s2 D.i1z.symm z1)));have k5:∀c o,c≠z->c≠TO->c≠i1->c≠i2->s.heap.get? c=some o->g5.get? c=some o:=λc o n1 n2 n3 n4 e=>zy s5 n2 (zy s4 n4 (zy s3 n2 (zy s2 n3 (zy s1 n1 e))));have t5:Sit b1 g5 i1 l1 (k+1):=t2.to λo e=>zy s5 D.TOi1.symm (zy s4 D.i12 (zy s3 D.TOi1.symm e));have u5:Sit b2 g5 i2 l2 (k+1):=t4.to λo e=>zy s5 D.TOi2.symm e;have zl:z<g5.objs.size:=_m z5;show wpAny _ _ (Builtin.SmallTypes.ownedTupleHandOut (.ref z) (.ref g5.objs.size) >>= _) _ _ _;refine _a ?_;unfold Builtin.SmallTypes.ownedTupleHandOut;have z6:IsZip (g5.push {cls:=.type "tuple",data:=.seq #[x,y]}) z TI TO .ellipsis:=_d _ z5;refine _a (_Z z6 (by simp) λg7 z7 s7=>?_);replace z7:IsZip g7 z TI TO (rawInt g5.objs.size):=z7;refine _Z z7 (by simp) λg8 z8 s8=>?_;replace z8:IsZip g8 z TI TO (rawInt g5.objs.size):=z8;have up:∀c o,c≠z->g5.get? c=some o->g8.get? c=some o:=λc o n e=>zy s8 n (zy s7 n (_d _ e));have p8:IsPair g8 g5.objs.size x y:=zy s8 (_cs zl) (zy s7 (_cs zl) (_n _ rfl));have e8:g8.objs.size=g5.objs.size+1:=by rw[s8.1,s7.1,_ak]
 rw[sz]at z8 p8 e8;refine _b ⟨_,rfl,_b ?_⟩;show Q (some (.ref g5.objs.size)) _;rw[sz];exact q g8 z8 (up _ _ D.TOz o5) (t5.to λo e=>up _ o D.i1z e) (u5.to λo e=>up _ o D.i2z e) p8 e8 λc o n1 n2 n3 n4 e=>up c o n1 (k5 c o n1 n2 n3 n4 e)
theorem ziO {z TI TO i1 i2 l1 l2:Addr} {b1 b2:Bool} {k:Nat} {xs ys:Array Value} {a b:Value} {Q:Option Value->Shared->Prop} (hh:A.handled=none) (D:ZipApart z TI TO i1 i2 l1 l2) (hz:IsZip s.heap z TI TO .none) (hTI:IsPair s.heap TI (.ref i1) (.ref i2)) (hTO:IsPair s.heap TO a b) (h1:Sit b1 s.heap i1 l1 k) (h2:Sit b2 s.heap i2 l2 k) (c1:Sco b1 s.heap l1 xs) (c2:Sco b2 s.heap l2 ys) (en:xs[k]? = none\/ys[k]? = none) (q:∀h',(∀c o,c≠z->c≠TO->c≠i1->c≠i2->s.heap.get? c=some o->h'.get? c=some o)->Q none {s with heap:=h'}):wpAny (model P w) A (pyNext (.ref z)) Q E s:=by
 have hT:s.TypeIs (.ref z) "zip":=⟨_,hz,rfl⟩;have fin:∀h' e,(∀c o,c≠z->c≠TO->c≠i1->c≠i2->s.heap.get? c=some o->h'.get? c=some o)->(∃o,h'.get? e=some o/\o.cls=.type "StopIteration")-> wpAny (model P w) A (isInstance (.ref e) (.type "StopIteration") >>= λb=>if b=true then (pure none:Sem (Option Value)) else throw (.ref e)) Q E {s with heap:=h'}:=λh' e hk he=>by
  obtain⟨o,ho,hc⟩:=he;refine _a (_bA (T:="StopIteration") (b:=true) ⟨o,ho,hc⟩ isSubtype_stop ?_);exact _b (q _ hk)
 unfold pyNext;refine _a (_bH (_P (name:=Str.ofString "__next__") hT _cm (_T _cm hT F.entry_zip_next ?_ (F.args_zip_next_1 _))));show wpAny _ _ (field (.ref z) 2 >>= _) _ _ _;refine _a (_W hz rfl (x:=.bool false) rfl ?_);show wpAny _ _ (field (.ref z) 3 >>= _) _ _ _;refine _a (_W hz rfl (x:=.ref TI) rfl ?_);refine _a (_aC hTI rfl ?_);show wpAny _ _ (Builtin.SmallTypes.ownedTupleIsFree (.ref z) >>= _) _ _ _;refine _a ?_;unfold Builtin.SmallTypes.ownedTupleIsFree;refine _a (_W hz rfl (x:=.none) rfl (_b ?_));simp only[_G];refine _a (_a2 ?_);refine _a (_W hz rfl (x:=.ref TO) rfl ?_);refine _a (_Z hz (by simp) λg1 z1 s1=>?_);replace z1:IsZip g1 z TI TO .ellipsis:=z1;refine _a ?_;simp only[List.zipIdx_cons,List.zipIdx_nil,List.forIn_cons,List.forIn_nil];refine _a (_a (_cU ?_));show wpAny _ _ (Builtin.SmallTypes.nextOf (.ref i1) >>= _) _ _ _;cases ex:xs[k]? with
 | none=>
  refine _a (zas hh (h1.to λo e=>zy s1 D.i1z e) (c1.to λo e=>zy s1 D.l1z e) ex λg2 e s2 he=>?_);obtain⟨oe,hoe,hce⟩:=he;have z2:IsZip g2 z TI TO .ellipsis:=s2 _ _ D.i1z.symm z1;have ez:e≠z:=λt=>by subst t;rw[z2]at hoe;cases hoe;simp at hce
  exact _Z z2 (by simp) λg3 _ s3=>fin g3 e (λc o n1 _ n3 _ t=>zy s3 n1 (s2 _ _ n3 (zy s1 n1 t))) ⟨oe,zy s3 ez hoe,hce⟩ | some x=>
  have ey:ys[k]? = none:=by rcases en with t | t;rw[ex]at t;cases t;exact t
  refine _a (nx (h1.to λo e=>zy s1 D.i1z e) (c1.to λo e=>zy s1 D.l1z e) ex λg2 t2 s2=>_b ?_);have o2:IsPair g2 TO a b:=zy s2 D.TOi1 (zy s1 D.TOz hTO);refine _a (_aC o2 rfl ?_);refine _a (_cf o2 λg3 o3 s3=>?_);refine _a (_bv (_b ?_));refine _a (_a (_cU ?_));show wpAny _ _ (Builtin.SmallTypes.nextOf (.ref i2) >>= _) _ _ _;refine _a (zas hh (h2.to λo e=>zy s3 D.TOi2.symm (zy s2 D.i12.symm (zy s1 D.i2z e))) (c2.to λo e=>zy s3 D.l2TO (zy s2 D.l2i1 (zy s1 D.l2z e))) ey λg4 e s4 he=>?_);obtain⟨oe,hoe,hce⟩:=he;have z4:IsZip g4 z TI TO .ellipsis:=s4 _ _ D.i2z.symm (zy s3 D.TOz.symm (zy s2 D.i1z.symm z1));have ez:e≠z:=λt=>by subst t;rw[z4]at hoe;cases hoe;simp at hce
  exact _Z z4 (by simp) λg5 _ s5=>fin g5 e (λc o n1 n2 n3 n4 t=>zy s5 n1 (s4 _ _ n4 (zy s3 n2 (zy s2 n3 (zy s1 n1 t))))) ⟨oe,zy s5 ez hoe,hce⟩
end
def itO(b:Bool)(l:Addr):Obj:=match b with
 | true=>{cls:=.type "list_iterator",data:=.fields #[.ref l,.int 0 0]} | false=>{cls:=.type "tuple_iterator",data:=.fields #[.ref l,.int 0 0]}
theorem z5K{b:Bool}{h:Heap}{a l:Addr}(e:h.get? a=some (itO b l)):Sit b h a l 0:=by cases b with
 | true=>exact⟨_,e,rfl,rfl⟩ | false=>exact⟨_,e,rfl,rfl⟩
theorem z1z(b:Bool)(l:Addr):(itO b l).isFreed=false:=by cases b<;>rfl
section
variable {P:Program}{w:World}{A:Around}{E:Value->Shared->Prop}{s:Shared}
theorem z3J {b:Bool} {l:Addr} {xs:Array Value} {Q:Value->Shared->Prop} (h:Sco b s.heap l xs) (q:Q (.ref s.heap.objs.size) {s with heap:=s.heap.push (itO b l)}):wpAny (model P w) A (pyIter (.ref l)) Q E s:=by cases b with
 | true=>exact wpAny_pyIter_list h q | false=>exact wpAny_pyIter_tuple h q
end
abbrev G1(b1:Bool)(h:Heap)(l1:Addr):Heap:=h.push (itO b1 l1)
abbrev G2(b1 b2:Bool)(h:Heap)(l1 l2:Addr):Heap:=(G1 b1 h l1).push (itO b2 l2)
abbrev G3(b1 b2:Bool)(h:Heap)(l1 l2:Addr):Heap:=(G2 b1 b2 h l1 l2).push {cls:=.type "tuple",data:=.seq #[.ref h.objs.size,.ref (G1 b1 h l1).objs.size]}
noncomputable abbrev G4(b1 b2:Bool)(h:Heap)(l1 l2:Addr):Heap:=(G3 b1 b2 h l1 l2).push {cls:=.type "tuple",data:=.seq #[.none,.none]}
noncomputable abbrev G5(b1 b2:Bool)(h:Heap)(l1 l2:Addr):Heap:=(G4 b1 b2 h l1 l2).push {cls:=.type "zip",data:=.fields #[.none,.bool false,.bool false,.ref (G2 b1 b2 h l1 l2).objs.size,.ref (G3 b1 b2 h l1 l2).objs.size]}
theorem zbX (b1 b2:Bool) (l1 l2:Addr) (xs ys:Array Value): Meets (Builtin.«zip.__new__» ⟨[.type "zip",.ref l1,.ref l2],[]⟩) (λ_ R s=>Sco b1 s.heap l1 xs/\Sco b2 s.heap l2 ys/\R (.ok (.ret (.ref (G4 b1 b2 s.heap l1 l2).objs.size))) {s with heap:=G5 b1 b2 s.heap l1 l2}):= .of_wp λprog w A R s h=>by
  obtain⟨hp,g,d,tk,os⟩:=s;obtain⟨c1,c2,h⟩:=h;have hsub:=sub_zip;have q1:Sco b1 (Shared.heap ⟨hp,g,d,tk,os⟩) l1 xs:=c1;have q2:Sco b2 (Shared.heap ⟨hp.push (itO b1 l1),g,d,tk,os⟩) l2 ys:=c2.to λo e=>_d _ e;wp_walk using z3J q1,z3J q2;exact⟨_,rfl,h⟩
section
variable {P:Program}{w:World}{A:Around}{E:Value->Shared->Prop}{s:Shared}
theorem zdq {b1 b2:Bool} {l1 l2:Addr} {xs ys:Array Value} {Q:Value->Shared->Prop} (c1:Sco b1 s.heap l1 xs) (c2:Sco b2 s.heap l2 ys) (h:∀h',IsZip h' (s.heap.objs.size+4) (s.heap.objs.size+2) (s.heap.objs.size+3) .none->IsPair h' (s.heap.objs.size+2) (.ref s.heap.objs.size) (.ref (s.heap.objs.size+1))-> IsPair h' (s.heap.objs.size+3) .none .none->Sit b1 h' s.heap.objs.size l1 0->Sit b2 h' (s.heap.objs.size+1) l2 0->(∀c o,s.heap.get? c=some o->h'.get? c=some o)->Q (.ref (s.heap.objs.size+4)) {s with heap:=h'}): wpAny (model P w) A (call (.type "zip") [.ref l1,.ref l2]) Q E s:=by
 refine callType_new F.called_zip (by decide) (F.typeCall_zip_2 _ _) (F.newCall_zip_2 _ _) (λobj=>F.args_object_init_3 obj _ _) F.entry_zip_new (zbX b1 b2 l1 l2 xs ys) ⟨c1,c2,?_⟩;have z1:(G1 b1 s.heap l1).objs.size=s.heap.objs.size+1:=_ak ..;have z2:(G2 b1 b2 s.heap l1 l2).objs.size=s.heap.objs.size+2:=by rw[_ak,z1]
 have z3:(G3 b1 b2 s.heap l1 l2).objs.size=s.heap.objs.size+3:=by rw[_ak,z2]
 have z4:(G4 b1 b2 s.heap l1 l2).objs.size=s.heap.objs.size+4:=by rw[_ak,z3]
 have up:∀{h:Heap} {o:Obj} {c:Addr} {u:Obj},h.get? c=some u->(h.push o).get? c=some u:=λe=>_d _ e;have g5:(G5 b1 b2 s.heap l1 l2).get? (G4 b1 b2 s.heap l1 l2).objs.size=some _:=_n _ rfl;have g4:(G5 b1 b2 s.heap l1 l2).get? (G3 b1 b2 s.heap l1 l2).objs.size=some _:=up (_n _ rfl);have g3:(G5 b1 b2 s.heap l1 l2).get? (G2 b1 b2 s.heap l1 l2).objs.size=some _:=up (up (_n _ rfl));have g2:(G5 b1 b2 s.heap l1 l2).get? (G1 b1 s.heap l1).objs.size=some (itO b2 l2):=up (up (up (_n _ (z1z b2 l2))));have g1:(G5 b1 b2 s.heap l1 l2).get? s.heap.objs.size=some (itO b1 l1):=up (up (up (up (_n _ (z1z b1 l1)))));show _/\_;rw[z2,z3,z4]at g5;rw[z1,z2]at g3;rw[z3]at g4;rw[z1]at g2;rw[z4];exact⟨⟨_,g5,rfl⟩,h _ g5 g3 g4 (z5K g1) (z5K g2) λc o e=>up (up (up (up (up e))))⟩
end
end Zz
namespace L2
open Zz
def Sq(b:Bool)(K:W.Frag)(H:Hp)(a:Addr)(xs:List V):Prop:=match b with
 | true=>SqL K H a xs | false=>SqT K H a xs
section
variable {X:Cx}{pins:List (Addr×Obj)}{O:St}{H:Hp}{s:Shared}{h':Heap}
theorem Inv.sq{b:Bool}{a:Addr}{xs:List V}(I:Inv X pins O H s)(h:Sq b X.K H a xs):∃its:List Value,yw xs its/\Sco b s.heap a its.toArray:=by cases b with
 | true=>obtain⟨its,r,p,_⟩:=I.list h;exact⟨its,r,p.isList⟩ | false=>obtain⟨its,r,p,_⟩:=I.tuple h;exact⟨its,r,p⟩
theorem Inv.sq_inj{b:Bool}{a:Addr}{xs ys:List V}(I:Inv X pins O H s)(h:Sq b X.K H a xs)(h':Sq b X.K H a ys):xs=ys:=by cases b with
 | true=>exact I.list_inj h h' | false=>exact I.tuple_inj h h'
theorem Inv.turnedL {t':Nat} {ch:List Addr} (I:Inv X pins O H s) (k:∀b o,b∉ch->s.heap.get? b=some o->h'.get? b=some o) (f:∀b∈ch,z3v X pins H b):Inv X pins O H {s with heap:=h',toks:=t'}:=by
 have nit:∀b u,H b=some u->b∉ch:=λb u e z=>by rw[(f b z).1]at e;cases e
 refine I.step (g':=s.gens) (d':=s.drawn) (ch:=ch) (λb hb=>⟨(f b hb).2.2.2.1,(f b hb).2.1,(f b hb).2.2.2.2.1,(f b hb).2.2.2.2.2⟩) (λb o _ _ hc e _=>k b o hc e) (λb o _ _ hc e _=>⟨o.slots,k b o hc e⟩) (λ_ _ _ _ n=>n) (λb o hc e=>⟨o,k b o hc e⟩) (λ_ _ e=>e) (λ_ _ _ e=>e) (λb ps e=>⟨#[],by rw[e];simp⟩) (λm hm=>?_) (λb u e=>?_) I.bare
 ·obtain⟨o,es,ep,ho,r⟩:=hm;exact⟨o,es,ep,k _ o (λz=>(f _ z).2.1 rfl) ho,r⟩
 ·refine (I.hok b u e).stay (λc v hc q=>k c v ?_ q) (λ_ q=>q) λ_ _ q=>q;rcases hc with z | z;·rw[z];exact nit b u e
  ·exact nit c _ z
end
def Itz(K:W.Frag)(b1 b2:Bool)(l1 l2:Addr):It:= ⟨λi H=>∃xs ys x y,Sq b1 K H l1 xs/\Sq b2 K H l2 ys/\xs[i]? = some x/\ys[i]? = some y, λi H v H'=>∃T x y,H T=none/\v=.ref T/\H'=upd H T (.tup [x,y])/\(∀xs,Sq b1 K H l1 xs->xs[i]? = some x)/\∀ys,Sq b2 K H l2 ys->ys[i]? = some y, λi H=>∃xs ys,Sq b1 K H l1 xs/\Sq b2 K H l2 ys/\(xs.length<=i\/ys.length<=i)⟩
theorem zdi {P:Program} {w:World} {K:W.Frag} {elts:List Expr} {kt:Nat} {tp:Pos} {b1 b2:Bool} {z TI TO i1 i2 l1 l2:Addr} (D:ZipApart z TI TO i1 i2 l1 l2): zcK P w K (.Tuple elts kt tp) (Itz K b1 b2 l1 l2) [z,TI,TO,i1,i2] z (λi h=>IsZip h z TI TO .none/\IsPair h TI (.ref i1) (.ref i2)/\(∃a b,IsPair h TO a b)/\Sit b1 h i1 l1 i/\Sit b2 h i2 l2 i) where
 mem:=by simp
 obj:=λi h ⟨hz,hTI,⟨a,b,hTO⟩,h1,h2⟩ c hc=>by
  have hc':c=z\/c=TI\/c=TO\/c=i1\/c=i2:=by simpa using hc
  rcases hc' with rfl | rfl | rfl | rfl | rfl;·exact⟨_,hz,λv e=>by simp at e⟩
  ·exact⟨_,hTI,λv e=>by simp at e⟩
  ·exact⟨_,hTO,λv e=>by simp at e⟩
  ·exact h1.ob
  ·exact h2.ob
 keep:=λi h h' ⟨hz,hTI,⟨a,b,hTO⟩,h1,h2⟩ k=>⟨k z (by simp) _ hz,k TI (by simp) _ hTI,⟨a,b,k TO (by simp) _ hTO⟩,h1.to λo e=>k i1 (by simp) o e,h2.to λo e=>k i2 (by simp) o e⟩;item:=by
  intro X hP hw hK hc i pins s O H E I hf ⟨hz,hTI,⟨a,b,hTO⟩,h1,h2⟩ ⟨xs,ys,x,y,qx,qy,ex,ey⟩;subst hP hw hK;obtain⟨ix,rx,cx⟩:=I.sq qx;obtain⟨iy,ry,cy⟩:=I.sq qy;obtain⟨u,hu,ru⟩:=rx.get ex;obtain⟨v,hv,rv⟩:=ry.get ey;refine zf5 D hz hTI hTO h1 h2 cx cy (x:=u) (y:=v) (by simpa using hu) (by simpa using hv) λg a1 a2 a3 a4 a5 a6 hk=>⟨_,rfl,?_⟩;have kk:∀c o,c∉[z,TO,i1,i2]->s.heap.get? c=some o->g.get? c=some o:=λc o n e=>hk c o (λt=>n (by simp[t])) (λt=>n (by simp[t])) (λt=>n (by simp[t])) (λt=>n (by simp[t])) e;have sub:∀c∈[z,TO,i1,i2],c∈[z,TI,TO,i1,i2]:=λc hc=>by
   have:c=z\/c=TO\/c=i1\/c=i2:=by simpa using hc
   rcases this with rfl | rfl | rfl | rfl<;>simp
  have I1:Inv X pins O H {s with heap:=g}:=I.turnedL (t':=s.toks) kk λc hc=>hf c (sub c hc);refine wpAny_letOwnedTupleGo_zip a1 λg2 z2 s2=>?_;obtain⟨f0,f1,f2,f3,f4,f5⟩:=hf z (by simp);have I2:Inv X pins O H {s with heap:=g2}:=I1.turned (t':=s.toks) (λc o n e=>zy s2 n e) f0 f1 f3 f4 f5;have new:z3v X pins H s.heap.objs.size:=I.fpOk (_h _) (I.hok.fresh (_h _));have ne:∀{c:Addr} {o:Obj},s.heap.get? c=some o->c≠s.heap.objs.size:=λe=>_y (_m e);have p2:IsPair g2 s.heap.objs.size u v:=zy s2 (ne hz).symm a5;refine⟨.ref s.heap.objs.size,upd H s.heap.objs.size (.tup [x,y]),I2.track new ⟨?_,[u,v],.cons ru (.cons rv .nil),⟨_,p2,rfl,rfl,_,rfl⟩⟩,rfl,⟨_,x,y,new.1,rfl,rfl,λzs qz=>?_,λzs qz=>?_⟩,⟨z2,?_,⟨_,_,zy s2 D.TOz a2⟩,a3.to λo e=>zy s2 D.i1z e,a4.to λo e=>zy s2 D.i2z e⟩,λc hc=>?_⟩;·show 2<=sizeLine;decide
  ·rw[I.sq_inj qz qx];exact ex
  ·rw[I.sq_inj qz qy];exact ey
  ·exact zy s2 D.TIz (hk TI _ D.TIz D.TITO D.TIi1 D.TIi2 hTI)
  ·have hc':c=z\/c=TI\/c=TO\/c=i1\/c=i2:=by simpa using hc
   have:c≠s.heap.objs.size:=by
    rcases hc' with rfl | rfl | rfl | rfl | rfl;·exact ne hz
    ·exact ne hTI
    ·exact ne hTO
    ·exact _y h1.lt
    ·exact _y h2.lt
   rw[zE this];exact (hf c hc).1
 done:=by
  intro X hP hw hK hc i pins s O H E I hf ⟨hz,hTI,⟨a,b,hTO⟩,h1,h2⟩ ⟨xs,ys,qx,qy,hl⟩;subst hP hw hK;obtain⟨ix,rx,cx⟩:=I.sq qx;obtain⟨iy,ry,cy⟩:=I.sq qy;have lx:=rx.length;have ly:=ry.length;refine ziO (I.ok.hd hc) D hz hTI hTO h1 h2 cx cy ?_ λg hk=>⟨rfl,?_⟩
  ·rcases hl with hl | hl;·exact .inl (by simp;omega)
   ·exact .inr (by simp;omega)
  ·exact I.turnedL (t':=s.toks) (ch:=[z,TO,i1,i2]) (λc o n e=>hk c o (λt=>n (by simp[t])) (λt=>n (by simp[t])) (λt=>n (by simp[t])) (λt=>n (by simp[t])) e) λc hc=>hf c (by
    have:c=z\/c=TO\/c=i1\/c=i2:=by simpa using hc
    rcases this with rfl | rfl | rfl | rfl<;>simp)
 self:=λ_ _ _ _ _ st h=>wpAny_pyIter_zip st.1 h
theorem zj4{X:Cx}{elts:List Expr}{kt:Nat}{tp:Pos}{a b:Expr}{ta:TA}{p pos:Pos}(hg:Gl X "zip")(hm:X.mg "zip"=none)(ha:PA X [a,b] ta)(hs:starEach [a,b] X.env=(false,eval a X.env)::starEach [b] X.env:=by rfl)(hpl:(backTo pos (starEach [b] X.env)).any (·.1)=false:=by rfl): PI X (.Tuple elts kt tp) (.Call (.Name "zip" p) [a,b] [] pos) (λO H R=>ta O H λvs H1=>∃l1 l2 b1 b2,vs=[.ref l1,.ref l2]/\(∃xs,Sq b1 X.K H1 l1 xs)/\(∃ys,Sq b2 X.K H1 l2 ys)/\R (Itz X.K b1 b2 l1 l2) H1):=by
 intro pins s O H R I h;refine _ag (z0a I hg hm (u:=.type "zip") (by first | exact PySem.boot_zip | rfl | decide +kernel) ?_ (by decide) (by decide));refine _aa (thn (ha pos pins s O H _ I h) λus s1 ⟨vs,H1,I1,r1,q1⟩=>?_) hs hpl;obtain⟨l1,l2,b1,b2,rfl,⟨xs,qx⟩,⟨ys,qy⟩,q⟩:=q1;cases r1 with | cons r1 r2=> cases r2 with | cons r2 r3=>
   cases r3;cases r1;cases r2;obtain⟨ix,rx,cx⟩:=I1.sq qx;obtain⟨iy,ry,cy⟩:=I1.sq qy;have lt1:l1<s1.heap.objs.size:=by cases b1 with
    | true=>obtain⟨o,e,_⟩:=cx;exact _m e | false=>obtain⟨o,e,_⟩:=cx;exact _m e
   have lt2:l2<s1.heap.objs.size:=by cases b2 with
    | true=>obtain⟨o,e,_⟩:=cy;exact _m e | false=>obtain⟨o,e,_⟩:=cy;exact _m e
   have D:ZipApart (s1.heap.objs.size+4) (s1.heap.objs.size+2) (s1.heap.objs.size+3) s1.heap.objs.size (s1.heap.objs.size+1) l1 l2:=by
    have e1:∀k:Nat,l1≠s1.heap.objs.size+k:=λk=>_y (_p lt1 (_c6 _ _));have e2:∀k:Nat,l2≠s1.heap.objs.size+k:=λk=>_y (_p lt2 (_c6 _ _));have nk:∀(m j k:Nat),j≠k->m+j≠m+k:=λm j k h z=>h (Nat.add_left_cancel z);exact⟨nk _ 2 4 (by decide),nk _ 3 4 (by decide),nk _ 0 4 (by decide),nk _ 1 4 (by decide),nk _ 2 3 (by decide),nk _ 2 0 (by decide),nk _ 2 1 (by decide),nk _ 3 0 (by decide),nk _ 3 1 (by decide),nk _ 0 1 (by decide),e1 4,e1 3,e1 0,e1 1,e2 4,e2 3,e2 0,e2 1⟩
   refine zdq cx cy λg hz hTI hTO h1 h2 hk=>?_;refine wpAny_pyIter_zip hz ?_;refine⟨_,_,_,_,H1,rfl,I1.kept (t':=s1.toks) hk,zdi D,⟨hz,hTI,⟨_,_,hTO⟩,h1,h2⟩,λc hc=>?_,q⟩;have hc':s1.heap.objs.size<=c:=by
    have:c=s1.heap.objs.size+4\/c=s1.heap.objs.size+2\/c=s1.heap.objs.size+3\/c=s1.heap.objs.size\/c=s1.heap.objs.size+1:=by simpa using hc
    rcases this with rfl | rfl | rfl | rfl | rfl<;>first | exact _h _ | exact _c6 _ _
   exact I1.fpOk hc' (I1.hok.fresh hc')
end L2
namespace Zz
section
variable {P:Program}{w:World}{A:Around}{E:Value->Shared->Prop}{s:Shared}
theorem z5f {b : Bool} {l : Addr} {its : Array Value} {Q : Value → Shared → Prop} (hh : A.handled = none) (h : Sco b s.heap l its) (k : ∀s2 : Shared, s2 = { s with heap := s.heap.push (itO b l) } → ∀St : Nat → Heap → Prop, Walks P w A s.heap.objs.size [s.heap.objs.size, l] [s.heap.objs.size] its.size (λi v => its[i]? = some v) St → St 0 s2.heap → (∀c ∈ [s.heap.objs.size, l], c < s2.heap.objs.size) → (∀h' : Heap, (∀c o, c ∉ [s.heap.objs.size] → s2.heap.get? c = some o → h'.get? c = some o) → ∀c o, s.heap.get? c = some o → h'.get? c = some o) → Q (.ref s.heap.objs.size) s2) : wpAny (model P w) A (pyIter (.ref l)) Q E s := by
  have lt : l < s.heap.objs.size := by cases b with
    | true => obtain⟨o, e, _⟩ := h; exact _m e | false => obtain⟨o, e, _⟩ := h; exact _m e
  have ne : l ≠ s.heap.objs.size := _y lt;have bd : ∀c ∈ [s.heap.objs.size, l], c < (s.heap.push (itO b l)).objs.size := λc hc => by
    have : c = s.heap.objs.size ∨ c = l := by simpa using hc
    rw[_ak];rcases this with rfl | rfl;· exact _ba _
    · exact _aJ lt
  have old : ∀h' : Heap, (∀c o, c ∉ [s.heap.objs.size] → (s.heap.push (itO b l)).get? c = some o → h'.get? c = some o) → ∀c o, s.heap.get? c = some o → h'.get? c = some o := λh' hk c o e =>
    hk c o (fun z => by have : c = s.heap.objs.size := by simpa using z
                        exact absurd (this ▸ _m e) (_al _)) (_d _ e);refine z3J h ?_;have g : (s.heap.push (itO b l)).get? s.heap.objs.size = some (itO b l) := _n _ (z1z b l);cases b with
  | true => exact k _ rfl _ (Walks.list hh _ l ne its) ⟨z5K (b := true) g, Sco.to (b := true) h λo e => _d _ e⟩ bd old | false => exact k _ rfl _ (Walks.tuple hh _ l ne its) ⟨z5K (b := false) g, Sco.to (b := false) h λo e => _d _ e⟩ bd old
end
end Zz
namespace L2
open Zz
def maxL:List Int->Int
 | []=>0 | x::xs=>xs.foldl max x
def minL:List Int->Int
 | []=>0 | x::xs=>xs.foldl min x
theorem uv:∀(xs:List Int)(x:Int),x<=xs.foldl max x/\(∀y∈xs,y<=xs.foldl max x)/\(xs.foldl max x=x\/xs.foldl max x∈xs)
 | [],x=>⟨Int.le_refl _,by simp,.inl rfl⟩ | y::ys,x=>by
  obtain⟨h1,h2,h3⟩:=uv ys (max x y);refine⟨by simp only[_aX];omega,λz hz=>?_,?_⟩
  ·simp only[_aX];rcases _q.mp hz with rfl | hz;·omega
   ·exact h2 z hz
  ·simp only[_aX];rcases h3 with h3 | h3
   ·rw[h3];rcases Int.le_total x y with h | h;·exact .inr (by rw[Int.max_eq_right h];simp)
    ·exact .inl (Int.max_eq_left h)
   ·exact .inr (_x _ h3)
theorem uy:∀(xs:List Int)(x:Int),xs.foldl min x<=x/\(∀y∈xs,xs.foldl min x<=y)/\(xs.foldl min x=x\/xs.foldl min x∈xs)
 | [],x=>⟨Int.le_refl _,by simp,.inl rfl⟩ | y::ys,x=>by
  obtain⟨h1,h2,h3⟩:=uy ys (min x y);refine⟨by simp only[_aX];omega,λz hz=>?_,?_⟩
  ·simp only[_aX];rcases _q.mp hz with rfl | hz;·omega
   ·exact h2 z hz
  ·simp only[_aX];rcases h3 with h3 | h3
   ·rw[h3];rcases Int.le_total x y with h | h;·exact .inl (Int.min_eq_left h)
    ·exact .inr (by rw[Int.min_eq_right h];simp)
   ·exact .inr (_x _ h3)
theorem maxL_ge{xs:List Int}:∀y∈xs,y<=maxL xs:=by cases xs with
 | nil=>simp | cons x xs=>intro y hy;rcases _q.mp hy with rfl | hy;exact (uv xs y).1;exact (uv xs x).2.1 y hy
theorem maxL_mem{xs:List Int}(h:xs≠[]):maxL xs∈xs:=by cases xs with
 | nil=>exact absurd rfl h | cons x xs=>rcases (uv xs x).2.2 with e | e;exact (show xs.foldl max x∈x::xs by rw[e];simp);exact _x _ e
theorem minL_le{xs:List Int}:∀y∈xs,minL xs<=y:=by cases xs with
 | nil=>simp | cons x xs=>intro y hy;rcases _q.mp hy with rfl | hy;exact (uy xs y).1;exact (uy xs x).2.1 y hy
theorem minL_mem{xs:List Int}(h:xs≠[]):minL xs∈xs:=by cases xs with
 | nil=>exact absurd rfl h | cons x xs=>rcases (uy xs x).2.2 with e | e;exact (show xs.foldl min x∈x::xs by rw[e];simp);exact _x _ e
section
variable {X:Cx}
theorem z5e {ns:List Int} {its:List Value} (r:yw (ns.map V.int) its) {i:Nat} {v:Value} (e:its.toArray[i]? = some v):∃t,v=.int (ns.getD i 0) t/\i<ns.length:=by
 have e':its[i]? = some v:=by simpa using e
 have hl:=r.length;have hi:i<ns.length:=by
  have:=(_c.mp e').1;simp at hl;omega
 obtain⟨u,hu,ru⟩:=r.get (i:=i) (x:=V.int ns[i]) (by simp[hi]);rw[e']at hu;cases hu;obtain⟨t,rfl⟩:=ru;exact⟨t,by simp[List.getD,hi],hi⟩
theorem getD_in{ns:List Int}{i:Nat}(h:i<ns.length):ns.getD i 0∈ns:=by
 rw[List.getD,_f h];exact _bb _
theorem zbP (hc:X.calm=true):xF X (.builtin "max") (λxs H Q=>∃b p ns,xs=[.ref p]/\Sq b X.K H p (ns.map V.int)/\ns≠[]/\Q (.int (maxL ns)) H):=by
 intro pins s O H xs us Q I r h;obtain⟨b,p,ns,rfl,hq,hne,q⟩:=h;obtain⟨u,rfl,ru⟩:=vals1 r;cases ru;obtain⟨its,rv,co⟩:=I.sq hq;have hl:its.length=ns.length:=by have:=rv.length;simp at this;omega
 have hn:0<ns.length:=_bE.mpr hne;refine call_max_walk (z5f (I.ok.hd hc) co λs2 e2 St W st bd old=>?_);subst e2;refine⟨_,_,_,_,_,_,_,rfl,W,st,bd,by simpa[hl] using hn,CmpOf.ints_gt (λi=>ns.getD i 0) (λi v e=>let ⟨t,e1,_⟩:=z5e rv e;⟨t,e1⟩),λv h' tk e hk=>?_⟩;obtain⟨t,e1,lt⟩:=z5e rv e;obtain⟨h1,h2⟩:=argBest_gt (λi=>ns.getD i 0) (its.toArray.size-1);have em:ns.getD (argBest (λi j=>decide (ns.getD i 0 > ns.getD j 0)) (its.toArray.size-1)) 0=maxL ns:=by
  refine Int.le_antisymm (maxL_ge _ ?_) ?_;·exact getD_in lt
  ·obtain⟨j,hj,ej⟩:=_F.mp (maxL_mem hne);have:=h2 j (by simp[hl];omega);simp only[List.getD,_f hj,_bc,ej]at this;simpa[List.getD] using this
 rw[e1,em];exact⟨.int (maxL ns),H,I.kept (t':=tk) (old h' hk),⟨t,rfl⟩,q⟩
theorem zai (hc:X.calm=true):xF X (.builtin "min") (λxs H Q=>∃b p ns,xs=[.ref p]/\Sq b X.K H p (ns.map V.int)/\ns≠[]/\Q (.int (minL ns)) H):=by
 intro pins s O H xs us Q I r h;obtain⟨b,p,ns,rfl,hq,hne,q⟩:=h;obtain⟨u,rfl,ru⟩:=vals1 r;cases ru;obtain⟨its,rv,co⟩:=I.sq hq;have hl:its.length=ns.length:=by have:=rv.length;simp at this;omega
 have hn:0<ns.length:=_bE.mpr hne;refine call_min_walk (z5f (I.ok.hd hc) co λs2 e2 St W st bd old=>?_);subst e2;refine⟨_,_,_,_,_,_,_,rfl,W,st,bd,by simpa[hl] using hn,CmpOf.ints_lt (λi=>ns.getD i 0) (λi v e=>let ⟨t,e1,_⟩:=z5e rv e;⟨t,e1⟩),λv h' tk e hk=>?_⟩;obtain⟨t,e1,lt⟩:=z5e rv e;obtain⟨h1,h2⟩:=argBest_lt (λi=>ns.getD i 0) (its.toArray.size-1);have em:ns.getD (argBest (λi j=>decide (ns.getD i 0<ns.getD j 0)) (its.toArray.size-1)) 0=minL ns:=by
  refine Int.le_antisymm ?_ (minL_le _ ?_)
  ·obtain⟨j,hj,ej⟩:=_F.mp (minL_mem hne);have:=h2 j (by simp[hl];omega);simp only[List.getD,_f hj,_bc,ej]at this;simpa[List.getD] using this
  ·exact getD_in lt
 rw[e1,em];exact⟨.int (minL ns),H,I.kept (t':=tk) (old h' hk),⟨t,rfl⟩,q⟩
theorem all_range{bs:List Bool}:(List.range bs.length).all (λi=>bs.getD i false)=bs.all id:=by
 rw[Bool.eq_iff_iff];simp only[_Y,_aI,id];constructor
 ·intro h x hx;obtain⟨j,hj,ej⟩:=_F.mp hx;have:=h j hj;simpa[List.getD,hj,ej] using this
 ·intro h i hi;simp only[List.getD,_f hi,_bc];exact h _ (_bb _)
theorem zaY (hc:X.calm=true):xF X (.builtin "all") (λxs H Q=>∃(b:Bool) (p:Addr) (bs:List Bool),xs=[.ref p]/\Sq b X.K H p (bs.map V.bl)/\Q (.bl (bs.all id)) H):=by
 intro pins s O H xs us Q I r h;obtain⟨b,p,bs,rfl,hq,q⟩:=h;obtain⟨u,rfl,ru⟩:=vals1 r;cases ru;obtain⟨its,rv,co⟩:=I.sq hq;have hl:its.length=bs.length:=by have:=rv.length;simp at this;omega
 refine call_all_walk (z5f (I.ok.hd hc) co λs2 e2 St W st bd old=>?_);subst e2;refine⟨_,_,_,_,_,_,λi=>bs.getD i false,rfl,W,st,λi v s3 Q3 E3 e q3=>?_,λh' tk hk=>?_⟩
 ·have e':its[i]? = some v:=by simpa using e
  have hi:i<bs.length:=by have:=(_c.mp e').1;omega
  obtain⟨u,hu,ru⟩:=rv.get (i:=i) (x:=V.bl bs[i]) (by simp[hi]);rw[e']at hu;cases hu;cases ru;have:bs.getD i false=bs[i]:=by simp[List.getD,hi]
  have q3:Q3 (bs.getD i false) s3:=q3;rw[this]at q3;exact _ae q3
 ·have ez:its.toArray.size=bs.length:=by simp[hl]
  rw[ez,all_range];exact⟨.bl (bs.all id),H,I.kept (t':=tk) (old h' hk),rfl,q⟩
end
end L2
namespace L2
theorem z7o{X:Cx}:xF X (.builtin "isinstance") (λxs H Q=>∃x t T b,xs=[x,.ty T]/\z8I X.K H x t/\W.kitOne X.K t (.type T)=some b/\Q (.bl b) H):=by
 intro pins s O H xs us Q I r h;obtain⟨x,t,T,b,rfl,ht,hk,q⟩:=h;obtain⟨u,v,rfl,ru,rv⟩:=vals2 r;cases rv;exact zaI I ru ht hk λtk=>⟨.bl b,H,I.tok _,rfl,q⟩
end L2
namespace Dd
open L2
noncomputable def tyD:D->Option String
 | .non=>some "NoneType" | .bl _=>some "bool" | .int _=>some "int" | .str _=>some "str" | .tup _=>some "tuple" | .lst _=>some "list" | .loc _=>some "list" | .dct=>some "dict" | _=>none
def isT(T t:String):Bool:=t==T||(T=="int"&&t=="bool")
noncomputable def gIs(T:String):D->Sto->R D:=λd s=>match tyD d with | some t=>.ok (.bl (isT T t)) s | none=>.no
theorem zgz{K:W.Frag}{t:String}(h:t∈["NoneType","bool","int","str","tuple","list","dict"])(T:String)(hT:T∈["int","bool","str","tuple","list"]):W.kitOne K (.type t) (.type T)=some (isT T t):=by
 have hh:t="NoneType"\/t="bool"\/t="int"\/t="str"\/t="tuple"\/t="list"\/t="dict":=by simpa using h
 have hh':T="int"\/T="bool"\/T="str"\/T="tuple"\/T="list":=by simpa using hT
 rcases hh with rfl | rfl | rfl | rfl | rfl | rfl | rfl<;>rcases hh' with rfl | rfl | rfl | rfl | rfl<;>kernel_rfl
theorem zig{mg:Gm}{H:Hp}{Y:List Addr}{s:Sto}{d:D}{v:V}{t:String}(r:Rep mg H Y s)(dn:Den mg H Y d v)(e:tyD d=some t):z8I mg.K H v (.type t)/\t∈["NoneType","bool","int","str","tuple","list","dict"]:=by cases d with
 | non=>simp only[Den]at dn;subst dn;cases e;exact⟨.non,by simp⟩ | bl b=>cases jQ dn;cases e;exact⟨.bl b,by simp⟩ | int b=>cases zT dn;cases e;exact⟨.int b,by simp⟩ | str b=>cases qO dn;cases e;exact⟨.str b,by simp⟩ | tup b=>
  cases e;simp only[Den]at dn;obtain⟨a,vs,rfl,h1,_⟩:=dn;exact⟨.tup h1,by simp⟩ | lst b=>
  cases e;simp only[Den]at dn;obtain⟨a,o,vs,rfl,h1,_⟩:=dn;exact⟨.frz h1,by simp⟩ | loc l=>
  cases e;simp only[Den]at dn;obtain⟨a,rfl,h1,vs,h2⟩:=dn;exact⟨.lst h2,by simp⟩ | dct=>
  cases e;simp only[Den]at dn;obtain⟨a,rfl,h1⟩:=dn;exact⟨.dK h1,by simp⟩ | _=>cases e
section
variable {X:Cx}{E:XK}{e a b c tg:Expr}{es:List Expr}{pos:Pos}{CX:CXT}
noncomputable def eIs(T:String)(f:FE):FE:=λZ s=>(f Z s).bind λd s1=>gIs T d s1
theorem zhJ{p p2:Pos}{T:String}{tn:Str}{f:FE}(hT:T∈["int","bool","str","tuple","list"])(hv:bootBuiltins tn=some (.type T))(hg:Gl X "isinstance")(hm:X.mg "isinstance"=none)(hg2:Gl X tn)(hm2:X.mg tn=none)(he:RE X E e f) (hn:tn≠"__name__":=by decide)(hd:(tn==("__debug__":Str))=false:=by decide) (hs:starEach [e,.Name tn p2] X.env=(false,eval e X.env)::starEach [.Name tn p2] X.env:=by rfl)(hpl:(backTo pos (starEach [.Name tn p2] X.env)).any (·.1)=false:=by rfl):RE X E (.Call (.Name "isinstance" p) [e,.Name tn p2] [] pos) (eIs T f):= zL (z1A z7o hg hm (by decide +kernel) (wS he (wS (zaS hg2 hm2 hv (show yr (.ty T) (.type T) from rfl) hn hd) kY) hs) (by decide) (by decide) hs hpl) λO H Q ⟨Y,Z,s,r,en,h⟩=>by
  refine zO (k:=λZ d s1=>gIs T d s1) r en h _ λv H1 Y1 s1 d r1 en1 dn stp h1=>?_;unfold gIs at h1;split at h1
  ·rename_i t et;obtain⟨q1,q2⟩:=zig r1 dn et;exact⟨v,.type t,T,isT T t,rfl,q1,zgz q2 T hT,okR.here (b:=V.bl (isT T t)) h1 r1 vJ⟩
  ·exact h1.elim
def zma:List D->Sto->R D
 | [.int i],s=>.ok (.int (if i<0 then -i else i)) s | _,_=>.no
noncomputable def intsOf:List D->Option (List Int)
 | []=>some [] | .int i::r=>(intsOf r).map (i::·) | _=>none
noncomputable def bools:List D->Option (List Bool)
 | []=>some [] | .bl i::r=>(bools r).map (i::·) | _=>none
theorem kI:∀{xs:List D}{ns:List Int},intsOf xs=some ns->xs=ns.map D.int
 | [],ns,h=>by simp[intsOf]at h;subst h;rfl | .int i::r,ns,h=>by
  simp only[intsOf,_w]at h;obtain⟨ms,h1,rfl⟩:=h;rw[kI h1];rfl
theorem uS(ns:List Int):intsOf (ns.map D.int)=some ns:=by induction ns with
 | nil=>rfl | cons n ns ih=>simp[intsOf,ih]
theorem z1u:∀{xs:List D}{ns:List Bool},bools xs=some ns->xs=ns.map D.bl
 | [],ns,h=>by simp[bools]at h;subst h;rfl | .bl i::r,ns,h=>by
  simp only[bools,_w]at h;obtain⟨ms,h1,rfl⟩:=h;rw[z1u h1];rfl
theorem z1O(ns:List Bool):bools (ns.map D.bl)=some ns:=by induction ns with
 | nil=>rfl | cons n ns ih=>simp[bools,ih]
theorem kJ{mg:Gm}{H:Hp}{Y:List Addr}:∀{ns:List Int}{vs:List V},zu mg H Y (ns.map D.int) vs->vs=ns.map V.int
 | [],vs,h=>by simpa[zu] using h | n::ns,vs,h=>by
  simp only[_v,zu]at h;obtain⟨v,r,rfl,h1,h2⟩:=h;cases zT h1;rw[kJ h2];rfl
theorem z1q{mg:Gm}{H:Hp}{Y:List Addr}:∀{ns:List Bool}{vs:List V},zu mg H Y (ns.map D.bl) vs->vs=ns.map V.bl
 | [],vs,h=>by simpa[zu] using h | n::ns,vs,h=>by
  simp only[_v,zu]at h;obtain⟨v,r,rfl,h1,h2⟩:=h;cases jQ h1;rw[z1q h2];rfl
noncomputable def wl:List D->Sto->R D
 | [d],s=>match (zW s d).bind intsOf with | some (n::ns)=>.ok (.int (maxL (n::ns))) s | _=>.no
 | _,_=>.no
noncomputable def z34:List D->Sto->R D
 | [d],s=>match (zW s d).bind intsOf with | some (n::ns)=>.ok (.int (minL (n::ns))) s | _=>.no
 | _,_=>.no
noncomputable def zfw:List D->Sto->R D
 | [d],s=>match (zW s d).bind bools with | some ns=>.ok (.bl (ns.all id)) s | none=>.no
 | _,_=>.no
theorem z8d{K:W.Frag}{H:Hp}{a:Addr}{vs:List V}(h:SqL K H a vs\/SqT K H a vs):∃b,Sq b K H a vs:=h.elim (λh=>⟨true,h⟩) λh=>⟨false,h⟩
theorem z24(hc:X.calm=true):∃r,xF X (.builtin "max") r/\z1m X E r wl:=⟨_,zbP hc,λH Y s ds vs Q r hd h=>by
 unfold wl at h;split at h
 ·rename_i d;split at h
  ·rename_i n ns e;obtain⟨xs,e1,e2⟩:=_ap.mp e;have:=kI e2;subst this;obtain⟨v,rfl,dn⟩:=z36 hd;obtain⟨a,ws,rfl,q1,q2⟩:=ut (K:=X.K) r e1 dn;cases kJ q2;obtain⟨b,q⟩:=z8d q1;exact⟨b,a,n::ns,rfl,q,by simp,h.here r yq⟩
  ·exact h.elim
 ·exact h.elim⟩
theorem ze3(hc:X.calm=true):∃r,xF X (.builtin "min") r/\z1m X E r z34:=⟨_,zai hc,λH Y s ds vs Q r hd h=>by
 unfold z34 at h;split at h
 ·rename_i d;split at h
  ·rename_i n ns e;obtain⟨xs,e1,e2⟩:=_ap.mp e;have:=kI e2;subst this;obtain⟨v,rfl,dn⟩:=z36 hd;obtain⟨a,ws,rfl,q1,q2⟩:=ut (K:=X.K) r e1 dn;cases kJ q2;obtain⟨b,q⟩:=z8d q1;exact⟨b,a,n::ns,rfl,q,by simp,h.here r yq⟩
  ·exact h.elim
 ·exact h.elim⟩
theorem zkl(hc:X.calm=true):∃r,xF X (.builtin "all") r/\z1m X E r zfw:=⟨_,zaY hc,λH Y s ds vs Q r hd h=>by
 unfold zfw at h;split at h
 ·rename_i d;split at h
  ·rename_i ns e;obtain⟨xs,e1,e2⟩:=_ap.mp e;have:=z1u e2;subst this;obtain⟨v,rfl,dn⟩:=z36 hd;obtain⟨a,ws,rfl,q1,q2⟩:=ut (K:=X.K) r e1 dn;cases z1q q2;obtain⟨b,q⟩:=z8d q1;exact⟨b,a,ns,rfl,q,h.here r vJ⟩
  ·exact h.elim
 ·exact h.elim⟩
noncomputable def z6L:List D->List D->List D
 | x::xs,y::ys=>.tup [x,y]::z6L xs ys | _,_=>[]
theorem z2D:∀(xs ys:List D),(z6L xs ys).length=min xs.length ys.length
 | [],ys=>by simp[z6L] | x::xs,[]=>by simp[z6L] | x::xs,y::ys=>by simp only[z6L,_g,z2D xs ys];omega
theorem z9X:∀{xs ys:List D}{i:Nat}{d:D},(z6L xs ys)[i]? = some d->∃x y,xs[i]? = some x/\ys[i]? = some y/\d=.tup [x,y]
 | [],ys,i,d,h=>by simp[z6L]at h | x::xs,[],i,d,h=>by simp[z6L]at h | x::xs,y::ys,0,d,h=>by simp[z6L]at h;exact⟨x,y,by simp,by simp,h.symm⟩ | x::xs,y::ys,i+1,d,h=>by
  simp only[z6L,_t]at h;obtain⟨a,b,h1,h2,h3⟩:=z9X h;exact⟨a,b,by simpa using h1,by simpa using h2,h3⟩
def zd9(s:Sto):D->Option (List D×List (Nat×List D))
 | .tup xs=>some (xs,[]) | .lst xs=>some (xs,[]) | .loc l=>(s[l]?).map λxs=>(xs,[(l,xs)]) | _=>none
theorem z7e{mg:Gm}{H:Hp}{Y:List Addr}{s:Sto}{d:D}{xs:List D}{g:List (Nat×List D)}{v:V}(r:Rep mg H Y s)(h:zd9 s d=some (xs,g))(dn:Den mg H Y d v):okG g [] s/\∃(b:Bool)(a:Addr),v=.ref a/\ ∀H2 Y2 s2,xx mg H Y H2 Y2 s2->okG g [] s2->∃ws,Sq b mg.K H2 a ws/\zu mg H2 Y2 xs ws:=by cases d with
 | tup ys=>
  cases h;obtain⟨a,vs,rfl,q1,q2⟩:=jZ (K:=mg.K) dn;refine⟨(by intro p hp;simp at hp),false,a,rfl,λH2 Y2 s2 stp _=>?_⟩;obtain⟨a',ws,e,q3,q4⟩:=jZ (K:=mg.K) (dn.mono stp);cases e;exact⟨ws,q3,q4⟩ | lst ys=>
  cases h;obtain⟨a,vs,rfl,q1,q2⟩:=zG (d:=.lst xs) r rfl dn;refine⟨(by intro p hp;simp at hp),true,a,rfl,λH2 Y2 s2 stp _=>?_⟩;obtain⟨a',ws,e,q3,q4⟩:=zG (d:=.lst xs) stp.rep rfl (dn.mono stp);cases e;exact⟨ws,.inl q3,q4⟩ | loc l=>
  simp only[zd9,_w]at h;obtain⟨ys,ey,e2⟩:=h;cases e2;obtain⟨a,vs,rfl,q1,q2⟩:=zG (d:=.loc l) r ey dn;have og:okG [(l,xs)] [] s:=λp hp=>by
   have:p=(l,xs):=by simpa using hp
   subst this;exact ey
  refine⟨og,true,a,rfl,λH2 Y2 s2 stp hg=>?_⟩;obtain⟨a',ws,e,q3,q4⟩:=zG (d:=.loc l) stp.rep (hg (l,xs) (by simp)) (dn.mono stp);cases e;exact⟨ws,.inl q3,q4⟩ | _=>cases h
noncomputable def zgR(f:FA):FI:=λZ s=>(f Z s).bind λds s1=>match ds with
 | [x,y]=>match zd9 s1 x,zd9 s1 y with
  | some p,some q=>.ok (z6L p.1 q.1,p.2++q.2) s1 | _,_=>.no
 | _=>.no
theorem zh9{p tp:Pos}{elts:List Expr}{kt:Nat}{f:FA}(hg:Gl X "zip")(hm:X.mg "zip"=none)(ha:RA X E [a,b] f)(hs:starEach [a,b] X.env=(false,eval a X.env)::starEach [b] X.env:=by rfl)(hpl:(backTo pos (starEach [b] X.env)).any (·.1)=false:=by rfl): RI X E (.Tuple elts kt tp) (.Call (.Name "zip" p) [a,b] [] pos) (zgR f):= z3A (zj4 hg hm ha hs hpl) λO H Q ⟨Y,Z,s,r,en,h⟩=>by
  unfold zgR at h;refine⟨Y,Z,s,r,en,(okR.bind (Dn:=zu (gm X)) h).imp λvs H1 ⟨Y1,s1,ds,stp,dn,h1⟩=>?_⟩;split at h1
  ·rename_i x y;split at h1
   ·rename_i p q ex ey;obtain⟨xs,gx⟩:=p;obtain⟨ys,gy⟩:=q;obtain⟨v,v',rfl,d1,d2⟩:=z6N dn;obtain⟨og1,b1,a1,rfl,k1⟩:=z7e stp.rep ex d1;obtain⟨og2,b2,a2,rfl,k2⟩:=z7e stp.rep ey d2;obtain⟨w1,q1,_⟩:=k1 H1 Y1 s1 (.refl stp.rep) og1;obtain⟨w2,q2,_⟩:=k2 H1 Y1 s1 (.refl stp.rep) og2;refine⟨a1,a2,b1,b2,rfl,⟨w1,q1⟩,⟨w2,q2⟩,h1.here stp.rep λH2 Y2 s2 stp2 og i=>?_⟩;have h3:okG gx [] s2:=λp hp=>og p (_af _ hp);have h4:okG gy [] s2:=λp hp=>og p (_s _ hp);refine⟨λd hd=>?_,λhl=>?_⟩
    ·obtain⟨x,y,e1,e2,rfl⟩:=z9X hd;obtain⟨w1,q1,n1⟩:=k1 H2 Y2 s2 stp2 h3;obtain⟨w2,q2,n2⟩:=k2 H2 Y2 s2 stp2 h4;obtain⟨u1,g1,m1⟩:=n1.get e1;obtain⟨u2,g2,m2⟩:=n2.get e2;refine⟨⟨w1,w2,u1,u2,q1,q2,g1,g2⟩,λz H' ⟨T,p,q,hT,ez,eH,hp,hq⟩=>?_⟩;subst ez eH;have e3:=hp w1 q1;have e4:=hq w2 q2;rw[g1]at e3;rw[g2]at e4;cases e3;cases e4;have st3:=xx.lay (o:=.tup [u1,u2]) stp2.rep hT (by intro _ z;cases z);refine⟨Y2,st3,?_⟩;simp only[Den];exact⟨T,[u1,u2],rfl,zN,(zu.cons m1 (zu.one m2)).mono st3⟩
    ·obtain⟨w1,q1,n1⟩:=k1 H2 Y2 s2 stp2 h3;obtain⟨w2,q2,n2⟩:=k2 H2 Y2 s2 stp2 h4;refine⟨w1,w2,q1,q2,?_⟩;rw[n1.length,n2.length];simp only[z2D]at hl;omega
   ·exact h1.elim
  ·exact h1.elim
end
def yh(mp:List (Option Nat))(Z:Ev):Ev:=mp.map λo=>match o with | some j=>(Z[j]?).getD none | none=>none
theorem ua.inner{mg:Gm}{H:Hp}{Y:List Addr}{Z:Ev}{O:L2.St}{mp:List (Option Nat)}(en:ua mg H Y Z O):ua mg H Y (yh mp Z) (inner mp O):=by
 refine⟨by simp[yh,L2.inner],λi d h=>?_⟩;simp only[yh,_V,_w]at h;obtain⟨o,h1,h2⟩:=h;cases o with
 | none=>cases h2 | some j=>
  simp only at h2;have h3:Z[j]? = some (some d):=by cases e:Z[j]? with
   | none=>rw[e]at h2;cases h2 | some x=>rw[e]at h2;simp at h2;rw[h2]
  obtain⟨v,h4,h5⟩:=en.at_ j d h3;exact⟨v,by simp[L2.inner,h1,h4],h5⟩
open Classical in
noncomputable def uc(g:List (Nat×List D))(all:List D)(body:D->Sto->R (Option D)):List D->List D->Sto->R (List D)
 | [],acc,s=>if okG g all s then .ok acc s else .no | x::xs,acc,s=>if okG g all s then (body x s).bind λo s1=>match o with
   | some d=>if acc.length<cap then uc g all body xs (acc++[d]) s1 else .no | none=>uc g all body xs acc s1 else .no
noncomputable def z5n(fi:FI)(mp:List (Option Nat))(fg:FG)(ft:FT)(fe:FE):FA:=λZ s=>(fi Z s).bind λit s1=>uc it.2 it.1 (λd s=>(fg d (yh mp Z) s).bind λZ' s'=>(ft Z' s').bind λb s2=>if b=true then (fe Z' s2).bind λd s3=>.ok (some d) s3 else .ok none s2) it.1 [] s1
def z4z(mg:Gm)(E:XK)(mp:List (Option Nat))(g:TG)(fg:FG):Prop:=∀(O:L2.St) H Y Z s x d (Q:L2.St->Hp->Prop),Rep mg H Y s->ua mg H Y (yh mp Z) (inner mp O)->Den mg H Y d x->okR mg E H Y (ua mg) (fg d (yh mp Z) s) Q-> g x (inner mp O) H (λO2 H2=>(O2.length=(inner mp O).length/\∀(i:Nat) v,(inner mp O)[i]? = some (some v)->O2[i]? = some (some v))/\Q O2 H2)
theorem z2m{mp:List (Option Nat)}{i:Nat}(h:mp[i]? = some none)(O:L2.St):(inner mp O)[i]? = some none:=by simp[L2.inner,h]
theorem z49{O:L2.St}{i:Nat}{v:V}(h:O[i]? = some none):(O.set i (some v)).length=O.length/\∀(j:Nat) u,O[j]? = some (some u)->(O.set i (some v))[j]? = some (some u):=by
 refine⟨by simp,λj u e=>?_⟩;have:i≠j:=λz=>by subst z;rw[h]at e;cases e
 rw[_B this];exact e
section
variable {X:Cx}{E:XK}{e a b c tg iter elt:Expr}{es:List Expr}{pos:Pos}{CX:CXT}{mp:List (Option Nat)}
theorem ux(i:Nat)(h:mp[i]? = some none):z4z (gm X) E mp (jH i) (kb i):=λO H Y Z s x d Q r en dn ok=>by
 refine⟨z49 (z2m h O),?_⟩;exact okR.here (b:=(inner mp O).set i (some x)) ok r (en.set dn i)
theorem z5d{fi:FI}{g:TG}{fg:FG}{ft:FT}{fe:FE}{O:L2.St}{H:Hp}{Q:VK}{Y:List Addr}{Z:Ev}{s:Sto}{β:Type}{kR:List D->Sto->R β}{β2:Type}{Dn:Hp->List Addr->β->β2->Prop}{Q2:β2->Hp->Prop}(hg:z4z (gm X) E mp g fg)(r:Rep (gm X) H Y s)(en:ua (gm X) H Y Z O) (h:okR (gm X) E H Y Dn ((z5n fi mp fg ft fe Z s).bind kR) Q2) (fin:∀H1 Y1 s1 xs vs,Rep (gm X) H1 Y1 s1->ua (gm X) H1 Y1 Z O->zu (gm X) H1 Y1 xs vs->okR (gm X) E H1 Y1 Dn (kR xs s1) Q2->xs.length<=cap->∀p,H1 p=none->Q (.ref p) (upd H1 p (.lst vs))): zdN (tI (gm X) E fi) mp g (tT (gm X) E ft) (tE (gm X) E fe) O H Q:=by
 unfold z5n at h;have assoc:∀{α γ δ:Type}(x:R α)(f:α->Sto->R γ)(k:γ->Sto->R δ),(x.bind f).bind k=x.bind λa s=>(f a s).bind k:=λx f k=>by cases x<;>rfl
 rw[assoc]at h;refine⟨Y,Z,s,r,en,(okR.bind (Dn:=zc8 (gm X)) h).imp λJ H1 ⟨Y1,s1,it,stp,ok,h1⟩=>?_⟩;obtain⟨items,gd⟩:=it;simp only at h1;refine⟨λi m ys H=>∃Y s acc,xx (gm X) H1 Y1 H Y s/\zu (gm X) H Y acc ys/\acc.length<=cap/\m=items.length-i/\i<=items.length/\ okR (gm X) E H Y Dn ((uc gd items (λd s=>(fg d (yh mp Z) s).bind λZ' s'=>(ft Z' s').bind λb s2=>if b=true then (fe Z' s2).bind λd s3=>.ok (some d) s3 else .ok none s2) (items.drop i) acc s).bind kR) Q2, ⟨items.length,Y1,s1,[],.refl stp.rep,zu.nil,_am _,by simp,_am _,by simpa using h1⟩,?_⟩;rintro i m ys H2 ⟨Y2,s2,acc,stp2,dn2,hcap,rfl,hil,h2⟩;have en2:ua (gm X) H2 Y2 Z O:=(en.mono stp).mono stp2;by_cases hlt:i<items.length
 ·right;rw[_aN hlt,uc]at h2;split at h2
  ·rename_i hG;obtain⟨go,yl⟩:=((ok H2 Y2 s2 stp2 hG i).1 items[i] (_f hlt));refine⟨go,λx H' y=>?_⟩;obtain⟨Y3,stp3,dn3⟩:=yl x H' y;have h3:=okR.rebase h2 stp3;rw[assoc,assoc]at h3;have h4:=okR.bind (Dn:=ua (gm X)) h3;refine hg O H' Y3 Z s2 x items[i] _ stp3.rep ((en2.mono stp3).inner) dn3 (h4.imp λO4 H4 ⟨Y4,s4,Z4,stp4,en4,h5⟩=>?_);rw[assoc]at h5;refine⟨Y4,Z4,s4,stp4.rep,en4,(okR.bind (Dn:=bD) h5).imp λbb H5 ⟨Y5,s5,b',stp5,eb,h6⟩=>?_⟩;cases (show b'=bb from eb);have all5:xx (gm X) H1 Y1 H5 Y5 s5:=((stp2.trans stp3).trans stp4).trans stp5;cases bb with
   | true=>
    rw[_e rfl]at h6 ⊢;rw[assoc]at h6;refine⟨Y5,Z4,s5,stp5.rep,en4.mono stp5,(okR.bind (Dn:=Den (gm X)) h6).imp λy H6 ⟨Y6,s6,d6,stp6,dn6,h7⟩=>?_⟩;simp only[Rb]at h7;split at h7
    ·rename_i hc;have all6:=all5.trans stp6;have dny:zu (gm X) H6 Y6 acc ys:=(((dn2.mono stp3).mono stp4).mono stp5).mono stp6;refine⟨by rw[dn2.length];exact ui hcap,items.length-(i+1),by omega,Y6,s6,acc++[d6],all6,dny.append (zu.one dn6),by simp;omega,rfl,hlt,h7⟩
    ·exact h7.elim | false=>
    rw[_j (by decide)]at h6 ⊢;simp only[Rb]at h6;exact⟨items.length-(i+1),by omega,Y5,s5,acc,all5,((dn2.mono stp3).mono stp4).mono stp5,hcap,rfl,hlt,h6⟩
  ·exact h2.elim
 ·left;have e:i=items.length:=by omega
  subst e;rw[_ca,uc]at h2;split at h2
  ·rename_i hG;simp only[Rb]at h2;exact⟨(ok H2 Y2 s2 stp2 hG _).2 (_h _),by rw[dn2.length];exact ui hcap,fin H2 Y2 s2 acc ys stp2.rep en2 dn2 h2 hcap⟩
  ·exact h2.elim
noncomputable def xQ(fi:FI)(mp:List (Option Nat))(fg:FG)(ft:FT)(fe:FE):FE:=λZ s=>(z5n fi mp fg ft fe Z s).bind λxs s1=>.ok (.lst xs) s1
noncomputable def z3K(fi:FI)(mp:List (Option Nat))(fg:FG)(ft:FT)(fe:FE):FE:=λZ s=>(z5n fi mp fg ft fe Z s).bind λxs s1=>if D.flat.flats xs=true then .ok (.loc s1.length) (s1++[xs]) else .no
def z1p:FT:=λ_ s=>.ok true s
theorem z1R{Yy:Cx}:z7W Yy [] (tT (gm Yy) E z1p):=λpins s O H Q I ⟨Y,Z,st,r,en,h⟩=>zdx pins s O H Q I (h.here (b:=true) r rfl)
theorem z1J{Yy:Cx}{f:FT}(h:RT Yy E c f):z7W Yy [c] (tT (gm Yy) E f):=zdO h
section
variable {scope:Scope}{ifs:List Expr}{fi:FI}{fg:FG}{ft:FT}{fe:FE}{g:TG}{spos py:Pos}
theorem zh7(N':List Str)(mp:List (Option Nat))(hc:X.calm=true)(hi:RI X E tg iter fi)(hg:∀ex s H,PG (zn X N' scope ex s H) tg g)(hgt:z4z (gm X) E mp g fg)(ht:∀ex s H,z7W (zn X N' scope ex s H) ifs (tT (gm X) E ft))(he:∀ex s H,RE (zn X N' scope ex s H) E elt fe) (hkd:scope.kind=.function)(hnm:∀y∈scope.names,scope.names.lookup y.1=some y.2) (hfr:∀y∈scope.names,y.2=.free->X.env.kindOf y.1=some .cell\/X.env.kindOf y.1=some .free)(hmp:z1c X.N scope.names N' mp=true) (hs:∀x,foldedSetIterable iter X.env x=pure x:=by intro _;rfl):RE X E (.ListComp elt [⟨tg,iter,ifs,0⟩] scope pos) (xQ fi mp fg ft fe):= zL (zfH (te:=tE (gm X) E fe) N' mp hc hi hg ht (λex s H=>he ex s H) hkd hnm hfr hmp hs).freeze λO H Q ⟨Y,Z,s,r,en,h⟩=> z5d hgt r en h λH1 Y1 s1 xs vs r1 en1 dn h1 hcap=>qD r1 h1 dn
theorem z8X {i:Nat} {y:Str} (N':List Str) (mp:List (Option Nat)) (hN:X.N.Nodup) (hc:X.calm=true) (hi:RI X E tg iter fi) (hg:∀ex s H,PG (zn X N' scope ex s H) tg g) (hgt:z4z (gm X) E mp g fg) (ht:∀ex s H,z7W (zn X N' scope ex s H) ifs (tT (gm X) E ft)) (he:∀ex s H,RE (zn X N' scope ex s H) E elt fe) (hkd:scope.kind=.function) (hnm:∀y∈scope.names,scope.names.lookup y.1=some y.2) (hfr:∀y∈scope.names,y.2=.free->X.env.kindOf y.1=some .cell\/X.env.kindOf y.1=some .free) (hmp:z1c X.N scope.names N' mp=true) (hy:X.N[i]? = some y:=by rfl) (hyl:Loc X.env.scope y:=by first | exact Or.inl rfl | exact Or.inr rfl) (hs:∀x,foldedSetIterable iter X.env x=pure x:=by intro _;rfl) (hsw:swapsWith (.ListComp elt [⟨tg,iter,ifs,0⟩] scope pos) (some (.Name y py)) spos.line X.env=pure true:=by rfl) (hf:X.fn y=true\/X.env.scope.names.lookup y=some .local:=by first | exact .inl rfl | exact .inr rfl | assumption): RS X E (.Assign [.Name y py] (.ListComp elt [⟨tg,iter,ifs,0⟩] scope pos) spos) (wj i (xQ fi mp fg ft fe)):= vA (z6Z (te:=tE (gm X) E fe) N' mp hN hy hyl hc hi hg ht (λex s H=>he ex s H) hkd hnm hfr hmp hs hsw hf) λD O H ⟨Y,Z,s,r,en,h⟩=>by
  have assoc:∀{α γ δ:Type} (x:R α) (f:α->Sto->R γ) (k:γ->Sto->R δ),(x.bind f).bind k=x.bind λa s=>(f a s).bind k:=λx f k=>by cases x<;>rfl
  unfold wj xQ at h;rw[assoc]at h;refine z5d hgt r en h λH1 Y1 s1 xs vs r1 en1 dn h1 hcap p hp=>?_;refine qD (E:=E) (mg:=gm X) (xs:=xs) r1 (λv H2 Y2 stp dn2=>?_) dn p hp;exact h1 (.nx (O.set i (some v))) H2 Y2 stp ((en1.mono stp).set dn2 i)
theorem z9p{i:Nat}{y:Str}(N':List Str)(mp:List (Option Nat))(hN:X.N.Nodup)(hc:X.calm=true)(hi:RI X E tg iter fi)(hg:∀ex s H,PG (zn X N' scope ex s H) tg g)(hgt:z4z (gm X) E mp g fg)(ht:∀ex s H,z7W (zn X N' scope ex s H) ifs (tT (gm X) E ft))(he:∀ex s H,RE (zn X N' scope ex s H) E elt fe) (hkd:scope.kind=.function)(hnm:∀y∈scope.names,scope.names.lookup y.1=some y.2) (hfr:∀y∈scope.names,y.2=.free->X.env.kindOf y.1=some .cell\/X.env.kindOf y.1=some .free)(hmp:z1c X.N scope.names N' mp=true)(hy:X.N[i]? = some y:=by rfl)(hyl:Loc X.env.scope y:=by first | exact Or.inl rfl | exact Or.inr rfl) (hs:∀x,foldedSetIterable iter X.env x=pure x:=by intro _;rfl) (hsw:swapsWith (.ListComp elt [⟨tg,iter,ifs,0⟩] scope pos) (some (.Name y py)) spos.line X.env=pure true:=by rfl) (hf:X.fn y=true\/X.env.scope.names.lookup y=some .local:=by first | exact .inl rfl | exact .inr rfl | assumption): RS X E (.Assign [.Name y py] (.ListComp elt [⟨tg,iter,ifs,0⟩] scope pos) spos) (wj i (z3K fi mp fg ft fe)):= vA (z9n (te:=tE (gm X) E fe) N' mp hN hy hyl hc hi hg ht (λex s H=>he ex s H) hkd hnm hfr hmp hs hsw hf) λD O H ⟨Y,Z,s,r,en,h⟩=>by
  have assoc:∀{α γ δ:Type}(x:R α)(f:α->Sto->R γ)(k:γ->Sto->R δ),(x.bind f).bind k=x.bind λa s=>(f a s).bind k:=λx f k=>by cases x<;>rfl
  unfold wj z3K at h;rw[assoc]at h;refine z5d hgt r en h λH1 Y1 s1 xs vs r1 en1 dn h1 hcap p hp=>?_;split at h1
  ·rename_i hf;have stp:=xx.layL (p:=p) r1 hp dn hf;refine h1 (.nx (O.set i (some (.ref p)))) _ _ stp ((en1.mono stp).set ?_ i);simp only[Den];exact⟨p,rfl,by rw[<- r1.len];simp,vs,zN⟩
  ·exact h1.elim
end
end
section
variable {X:Cx}{E:XK}{e a b c tg iter elt:Expr}{es:List Expr}{pos:Pos}{CX:CXT}{mp:List (Option Nat)}
def zeD(K:W.Frag)(i j:Nat):TG:=zll K 2 (zfM (jH i) (zfM (jH j) zl8))
theorem z8q(i j:Nat){x y:Str}{px py:Pos}{kt:Nat}(hc:X.calm=true)(hN:X.N.Nodup)(hi:X.N[i]? = some x:=by rfl)(hj:X.N[j]? = some y:=by rfl)(hx:Loc X.env.scope x:=by first | exact Or.inl rfl | exact Or.inr rfl)(hy:Loc X.env.scope y:=by first | exact Or.inl rfl | exact Or.inr rfl) (hf:X.fn x=true\/X.env.scope.names.lookup x=some .local:=by first | exact .inl rfl | exact .inr rfl | assumption)(hf':X.fn y=true\/X.env.scope.names.lookup y=some .local:=by first | exact .inl rfl | exact .inr rfl | assumption): PG X (.Tuple [.Name x px,.Name y py] kt pos) (zeD X.K i j):=zev hc (z1C (yJ hN hi hx hf) (z1C (yJ hN hj hy hf') zbr))
theorem z7L(i j:Nat)(hij:i≠j)(h:mp[i]? = some none)(h':mp[j]? = some none):z4z (gm X) E mp (zeD X.K i j) (kw i j):=λO H Y Z s x d Q r en dn ok=>by
 unfold kw at ok;split at ok
 ·rename_i d1 d2;obtain⟨p,vs,rfl,q1,q2⟩:=jZ (K:=X.K) dn;obtain⟨v1,v2,rfl,e1,e2⟩:=z6N q2;have k1:=z49 (v:=v1) (z2m h O);have own2:((inner mp O).set i (some v1))[j]? = some none:=by rw[_B hij];exact z2m h' O
  have k2:=z49 (v:=v2) own2;exact⟨p,[v1,v2],rfl,q1,rfl,v1,[v2],rfl,v2,[],rfl,rfl,⟨k2.1.trans k1.1,λl u e=>k2.2 l u (k1.2 l u e)⟩,okR.here ok r ((en.set e1 i).set e2 j)⟩
 ·exact ok.elim
end
def zt(N:List Str)(ds:List D):Ev:=ds.map some++List.replicate (N.length-ds.length) none
theorem jC{mg:Gm}{H:Hp}{Y:List Addr}{N:List Str}:∀{ds:List D}{vs:List V},zu mg H Y ds vs->ua mg H Y (zt N ds) (L2.start N vs):=λ{ds vs} h=>by
 have hl:=h.length;refine⟨by simp[zt,L2.start,hl],λi d e=>?_⟩;unfold zt at e;have hi:i<ds.length:=by
  by_cases hi:i<ds.length;·exact hi
  ·rw[_O (by simpa using hi),_a9]at e;split at e<;>cases e
 rw[_o (by simpa using hi),_V]at e;have e':ds[i]? = some d:=by cases q:ds[i]? with
  | none=>rw[q]at e;cases e | some x=>rw[q]at e;simp at e;rw[e]
 obtain⟨v,h1,h2⟩:=h.get e';refine⟨v,?_,h2⟩;unfold L2.start;rw[_o (by simpa[hl] using hi),_V,h1];rfl
noncomputable def Mof(N:List Str)(n:Nat)(fs:FS):Mir:=λds s=>if ds.length=n then (match fs (zt N ds) s with
 | .ok (.rt d) s'=>.ok d s' | .ok (.nx _) s'=>.ok .non s' | _=>.no) else .no
section
variable {P:Program}{w:World}{K:W.Frag}{mg:Str->Option Value}{base:Heap}
theorem Has.mono{CX:CXT}{x:Str}{n m:Nat}{M:Mir}(h:Has P w K mg base CX x n M)(hl:n<=m):Has P w K mg base CX x m M:=by
 obtain⟨f,fd,ps,F,r⟩:=h;exact⟨f,fd,ps,F.mono hl,r⟩
theorem yk{x qual:Str}{st:Stmt}{f:Addr}{fd:FuncData}{N ps:List Str}{k n:Nat}{fs:FS}(F:Fun K x qual st f fd)(hm:mg x=some (.ref f))(hb:Binds K fd ps [])(S:zA N ps (zh st))(hn:ps.length=n) (body:∀(cdv:Value)(A:Around)(outer:List Env)(s:Shared)(H:Hp)(E:XK),z0e k (A.deeper (envOfC qual (zh st) s.heap.objs.size f cdv))->(z2i CX0 P w K mg base N qual (zh st) f cdv A outer s H E).nox.calm=true-> RSs (z2i CX0 P w K mg base N qual (zh st) f cdv A outer s H E).nox E0 (wW st) fs):Has P w K mg base CX0 x (k+1) (Mof N n fs):=by
 subst hn;refine⟨f,fd,ps,F.ok S (λvs H Q E h=>?_) (λcdv A outer s H vs Q E hr h=>?_),hb,F.kp,hm⟩
 ·obtain⟨Y,s,ds,_,dn,h⟩:=h;unfold Mof at h;split at h;·rename_i e;rw[dn.length];exact e
  ·exact h.elim
 ·obtain⟨Y,st0,ds,r,dn,h⟩:=h;refine⟨_,body cdv A outer s H E hr (by show A.handled.isNone=true;rw[show A.handled=none from hr.hd];rfl),Y,zt N ds,st0,r,jC dn,?_⟩;unfold Mof at h;split at h
  ·split at h
   ·rename_i d s' e;rw[e];intro fv H' Y' stp fd;cases fv with
    | rt v=>exact h v H' Y' stp fd | _=>exact (show False from fd).elim
   ·rename_i Z s' e;rw[e];intro fv H' Y' stp fd;cases fv with
    | nx v=>exact h .non H' Y' stp (by simp[Den]) | _=>exact (show False from fd).elim
   ·exact h.elim
  ·exact h.elim
end
def zfW(K:W.Frag):Sp:=λvs H Q _=>∃(a:Addr)(ns:List Int),vs=[.ref a]/\zkQ H/\SqL K H a (ns.map V.int)/\ns.length<=63/\∀H',Q (.bl true) H'
theorem z11{mg:Gm}{H:Hp}{Y:List Addr}:∀(ns:List Int),zu mg H Y (ns.map D.int) (ns.map V.int)
 | []=>zu.nil | n::ns=>zu.cons yq (z11 ns)
theorem zj6{P:Program}{w:World}{K:W.Frag}{mg:Str->Option Value}{base:Heap}{x:Str}{n:Nat}{M:Mir}{f:Addr}{fd:FuncData}{ps:List Str}(F:z4y P w K mg base CX0 n f fd ps (zcu ⟨mg,K⟩ M)) (h:∀ns:List Int,ns.length<=63->∃s',M [.scr (ns.map D.int)] []=.ok (.bl true) s'):z4y P w K mg base CX0 n f fd ps (zfW K):= F.imp λvs H Q E ⟨a,ns,e,ho,hq,hl,q⟩=>by
  subst e;obtain⟨s',hs⟩:=h ns hl;refine⟨[],[],[.scr (ns.map D.int)],⟨rfl,List.nodup_nil,λl xs z=>by simp at z,λxs z=>by simp at z⟩,zu.one ?_,?_⟩
  ·simp only[Den];refine⟨a,ns.map V.int,rfl,?_,z11 ns⟩;rcases hq with (z | z) | z
   ·rcases ho a with y | ⟨o,xs,y⟩;·rw[y]at z;cases z
    ·rw[y]at z;cases z
   ·exact .inl z
   ·exact .inr z
  ·rw[hs];intro v H' Y' stp dn;cases jQ dn;exact q H'
section
variable {X:Cx}{E:XK}{e a b c tg iter elt:Expr}{es:List Expr}{pos:Pos}{CX:CXT}
def z3Z(f:FE):FE:=λZ s=>(f Z s).bind λd s1=>match d with | .int i=>.ok (.int (-i)) s1 | _=>.no
theorem z4x{f:FE}(h:RE X E a f):RE X E (.UnaryOp .USub a pos) (z3Z f):= zL (ziL zeb h) λO H Q ⟨Y,Z,s,r,en,h⟩=>by
  refine zO (k:=λZ d s1=>match d with | .int i=>R.ok (D.int (-i)) s1 | _=>.no) r en h _ λv H1 Y1 s1 d r1 en1 dn stp h1=>?_;cases d with
  | int i=>
   cases zT dn;exact⟨i,rfl,okR.here (b:=V.int (-i)) h1 r1 yq⟩ | _=>exact h1.elim
theorem zb1{op op':CmpOp}{fo fo':D->D->Sto->R D}{fa fb fc:FE}(ho:∃r,OpR X (compareOp op) r/\OpF X E r fo)(ho':∃r,OpR X (compareOp op') r/\OpF X E r fo')(ha:RE X E a fa)(hb:RE X E b fb)(hc:RE X E c fc) (hm:lastMarks [op,op'] [b,c]=false:=by with_unfolding_all rfl):RT X E (.Compare a [op,op'] [b,c] pos) (tOf (z0d fo fo' fa fb fc)):=by
 obtain⟨r,h1,h2⟩:=ho;obtain⟨r',h1',h2'⟩:=ho';exact z6x (zdj h1 h1' ha hb hc hm) λO H Q h=>by
  have q:=z43 h;exact z65 h2 h2' q
noncomputable def kn(i:Int)(n:Nat):List D:=(List.range n).map λ(k:Nat)=>D.int (i+((k:Nat):Int))
noncomputable def z92(f:FA):FI:=λZ s=>(f Z s).bind λds s1=>match ds with
 | [.int i,.int j]=>if -(2 ^ 62)<=i/\i<2 ^ 62/\-(2 ^ 62)<=j/\j<2 ^ 62 then .ok (kn i (j-i).toNat,[]) s1 else .no | _=>.no
theorem z8j{p:Pos}{f:FA}(hg:Gl X "range")(hm:X.mg "range"=none)(ha:RA X E [a,b] f)(hs:starEach [a,b] X.env=[(false,eval a X.env),(false,eval b X.env)]:=by rfl)(hs2:starEach [b] X.env=[(false,eval b X.env)]:=by rfl):RI X E tg (.Call (.Name "range" p) [a,b] [] pos) (z92 f):= z3A (zaD hg hm ha hs hs2) λO H Q ⟨Y,Z,s,r,en,h⟩=>by
  unfold z92 at h;refine⟨Y,Z,s,r,en,(okR.bind (Dn:=zu (gm X)) h).imp λvs H1 ⟨Y1,s1,ds,stp,dn,h1⟩=>?_⟩;split at h1
  ·rename_i i j;split at h1
   ·rename_i hj;obtain⟨v,v',rfl,d1,d2⟩:=z6N dn;cases zT d1;cases zT d2;refine⟨i,j,rfl,hj,h1.here stp.rep λH2 Y2 s2 stp2 _ k=>⟨λd hd=>?_,λhl=>?_⟩⟩
    ·have hi:k<(j-i).toNat:=by
      have:=(_c.mp hd).1;simpa[kn] using this
     refine⟨hi,λx H' ⟨e1,e2⟩=>?_⟩;subst e1 e2;refine⟨Y2,.refl stp2.rep,?_⟩;have e3:d=D.int (i+k):=by
      simp only[kn,_V,_cq hi,_as,_D]at hd;exact hd.symm
     rw[e3];exact yq
    ·have:(kn i (j-i).toNat).length=(j-i).toNat:=by simp[kn]
     show (j-i).toNat<=k;rw[<- this];exact hl
   ·exact h1.elim
  ·exact h1.elim
end
noncomputable def isK(o:Option NameKind)(k:NameKind):Bool:=match o,k with
 | some .local,.local=>true | some .cell,.cell=>true | some .free,.free=>true | some .globalImplicit,.globalImplicit=>true | _,_=>false
theorem zb0{o:Option NameKind}{k:NameKind}(h:isK o k=true):o=some k:=by cases o with
 | none=>cases k<;>simp[isK]at h | some j=>cases j<;>cases k<;>first | rfl | simp[isK]at h
def isF(k:NameKind):Bool:=match k with | .free=>true | _=>false
theorem zhB{k:NameKind}(h:k=.free):isF k=true:=by subst h;rfl
noncomputable def z9u(ko:Str->Option NameKind)(names:List (Str×NameKind)):Bool:=names.all λy=>!isF y.2||(isK (ko y.1) .cell||isK (ko y.1) .free)
theorem kK{ko:Str->Option NameKind}{names:List (Str×NameKind)}(h:z9u ko names=true):∀y∈names,y.2=.free->ko y.1=some .cell\/ko y.1=some .free:=λy hy hf=>by
 have:=_Y.mp h y hy;rw[zhB hf]at this;simp only[_bo,Bool.false_or,Bool.or_eq_true]at this;exact this.imp zb0 zb0
noncomputable def z8R(names:List (Str×NameKind)):Bool:=names.all λy=>isK (names.lookup y.1) y.2
theorem z03{names:List (Str×NameKind)}(h:z8R names=true):∀y∈names,names.lookup y.1=some y.2:=λy hy=>by
 have:=_Y.mp h y hy;exact zb0 this
section
variable {X:Cx}{E:XK}{e a b c tg iter elt:Expr}{es:List Expr}{pos:Pos}{CX:CXT}
variable {scope:Scope}{ifs:List Expr}{fi:FI}{fg:FG}{ft:FT}{fe:FE}{g:TG}{spos py:Pos}
theorem zeH{x:Str}{i:Int}(hg:Gl X x)(hm:∃t,X.mg x=some (.int i t))(hd:(x==("__debug__":Str))=false:=by decide):RE X E (.Name x pos) (eC (.int i)):=let ⟨_,h⟩:=hm;ziw hg h hd
theorem jb(N':List Str)(mp:List (Option Nat))(hc:X.calm=true)(hi:RI X E tg iter fi)(hg:∀ex s H,PG (zn X N' scope ex s H) tg g)(hgt:z4z (gm X) E mp g fg)(ht:∀ex s H,z7W (zn X N' scope ex s H) ifs (tT (gm X) E ft))(he:∀ex s H,RE (zn X N' scope ex s H) E elt fe) (hkd:scope.kind=.function:=by rfl)(hnm:z8R scope.names=true:=by rfl)(hfr:z9u X.env.kindOf scope.names=true:=by rfl)(hmp:z1c X.N scope.names N' mp=true:=by rfl) (hs:∀x,foldedSetIterable iter X.env x=pure x:=by intro _;rfl):RE X E (.ListComp elt [⟨tg,iter,ifs,0⟩] scope pos) (xQ fi mp fg ft fe):= zh7 N' mp hc hi hg hgt ht he hkd (z03 hnm) (kK hfr) hmp hs
theorem zf7(i:Nat){y:Str}(N':List Str)(mp:List (Option Nat))(hN:X.N.Nodup)(hc:X.calm=true)(hi:RI X E tg iter fi)(hg:∀ex s H,PG (zn X N' scope ex s H) tg g)(hgt:z4z (gm X) E mp g fg)(ht:∀ex s H,z7W (zn X N' scope ex s H) ifs (tT (gm X) E ft))(he:∀ex s H,RE (zn X N' scope ex s H) E elt fe) (hkd:scope.kind=.function:=by rfl)(hnm:z8R scope.names=true:=by rfl)(hfr:z9u X.env.kindOf scope.names=true:=by rfl)(hmp:z1c X.N scope.names N' mp=true:=by rfl)(hy:X.N[i]? = some y:=by rfl)(hyl:Loc X.env.scope y:=by first | exact Or.inl rfl | exact Or.inr rfl) (hs:∀x,foldedSetIterable iter X.env x=pure x:=by intro _;rfl) (hsw:swapsWith (.ListComp elt [⟨tg,iter,ifs,0⟩] scope pos) (some (.Name y py)) spos.line X.env=pure true:=by rfl) (hf:X.fn y=true\/X.env.scope.names.lookup y=some .local:=by first | exact .inl rfl | exact .inr rfl | assumption): RS X E (.Assign [.Name y py] (.ListComp elt [⟨tg,iter,ifs,0⟩] scope pos) spos) (wj i (xQ fi mp fg ft fe)):= z8X N' mp hN hc hi hg hgt ht he hkd (z03 hnm) (kK hfr) hmp hy hyl hs hsw hf
theorem zgf(i:Nat){y:Str}(N':List Str)(mp:List (Option Nat))(hN:X.N.Nodup)(hc:X.calm=true)(hi:RI X E tg iter fi)(hg:∀ex s H,PG (zn X N' scope ex s H) tg g)(hgt:z4z (gm X) E mp g fg)(ht:∀ex s H,z7W (zn X N' scope ex s H) ifs (tT (gm X) E ft))(he:∀ex s H,RE (zn X N' scope ex s H) E elt fe) (hkd:scope.kind=.function:=by rfl)(hnm:z8R scope.names=true:=by rfl)(hfr:z9u X.env.kindOf scope.names=true:=by rfl)(hmp:z1c X.N scope.names N' mp=true:=by rfl)(hy:X.N[i]? = some y:=by rfl)(hyl:Loc X.env.scope y:=by first | exact Or.inl rfl | exact Or.inr rfl) (hs:∀x,foldedSetIterable iter X.env x=pure x:=by intro _;rfl) (hsw:swapsWith (.ListComp elt [⟨tg,iter,ifs,0⟩] scope pos) (some (.Name y py)) spos.line X.env=pure true:=by rfl) (hf:X.fn y=true\/X.env.scope.names.lookup y=some .local:=by first | exact .inl rfl | exact .inr rfl | assumption): RS X E (.Assign [.Name y py] (.ListComp elt [⟨tg,iter,ifs,0⟩] scope pos) spos) (wj i (z3K fi mp fg ft fe)):= z9p N' mp hN hc hi hg hgt ht he hkd (z03 hnm) (kK hfr) hmp hy hyl hs hsw hf
end
theorem zhK{P:Program}{w:World}{K:W.Frag}{mg:Str->Option Value}{base:Heap}{x qual:Str}{st:Stmt}{f:Addr}{fd:FuncData}{N ps:List Str}{k n:Nat}{fs:FS}(F:Fun K x qual st f fd)(S:zA N ps (zh st))(hn:ps.length=n) (body:∀(cdv:Value)(A:Around)(outer:List Env)(s:Shared)(H:Hp)(E:XK),z0e k (A.deeper (envOfC qual (zh st) s.heap.objs.size f cdv))->(z2i CX0 P w K mg base N qual (zh st) f cdv A outer s H E).nox.calm=true-> RSs (z2i CX0 P w K mg base N qual (zh st) f cdv A outer s H E).nox E0 (wW st) fs):z4y P w K mg base CX0 (k+1) f fd ps (zcu ⟨mg,K⟩ (Mof N n fs)):=by
 subst hn;refine F.ok S (λvs H Q E h=>?_) (λcdv A outer s H vs Q E hr h=>?_)
 ·obtain⟨Y,s,ds,_,dn,h⟩:=h;unfold Mof at h;split at h;·rename_i e;rw[dn.length];exact e
  ·exact h.elim
 ·obtain⟨Y,st0,ds,r,dn,h⟩:=h;refine⟨_,body cdv A outer s H E hr (by show A.handled.isNone=true;rw[show A.handled=none from hr.hd];rfl),Y,zt N ds,st0,r,jC dn,?_⟩;unfold Mof at h;split at h
  ·split at h
   ·rename_i d s' e;rw[e];intro fv H' Y' stp fd;cases fv with
    | rt v=>exact h v H' Y' stp fd | _=>exact (show False from fd).elim
   ·rename_i Z s' e;rw[e];intro fv H' Y' stp fd;cases fv with
    | nx v=>exact h .non H' Y' stp (by simp[Den]) | _=>exact (show False from fd).elim
   ·exact h.elim
  ·exact h.elim
section
variable {all xs:List D}{Z:Ev}{s:Sto}
theorem z8g{body:D->Ev->Sto->R Fl}(I:Ev->Sto->Prop):∀(xs:List D),(∀x∈xs,∀Z s,I Z s->∃Z' s',body x Z s=.ok (.nx Z') s'/\I Z' s')->∀Z s,I Z s->∃Z' s',vk [] all body xs Z s=.ok (.nx Z') s'/\I Z' s'
 | [],_,Z,s,h=>⟨Z,s,by simp[vk,okG],h⟩ | x::xs,hb,Z,s,h=>by
  obtain⟨Z1,s1,e1,h1⟩:=hb x (by simp) Z s h;obtain⟨Z2,s2,e2,h2⟩:=z8g I xs (λy hy=>hb y (by simp[hy])) Z1 s1 h1;exact⟨Z2,s2,by simp[vk,okG,e1,e2],h2⟩
theorem z5H{body:D->Sto->R (Option D)}(f:D->D):∀(xs acc:List D),(∀x∈xs,body x s=.ok (some (f x)) s)->acc.length+xs.length<=cap->uc [] all body xs acc s=.ok (acc++xs.map f) s
 | [],acc,_,_=>by simp[uc,okG] | x::xs,acc,hb,hl=>by
  have ih:=z5H f xs (acc++[f x]) (λy hy=>hb y (by simp[hy])) (by simp at hl ⊢;omega);have hc:acc.length<cap:=by simp at hl;omega
  rw[uc];simp[okG,hb x (by simp),hc,ih]
end
section
variable (i j k n:Nat)(Z:Ev)(s:Sto)(f g fa fb fc:FE)(d x y:D)(ds:List D)(ar:FA)(op op':D->D->Sto->R D)(ft ft':FT)(fs fs':FS)(M:Mir)(T:String)(fl fh fo:FO)(fi:FI)(fg:FG)(mp:List (Option Nat))(N:List Str)
@[simp] theorem xV:zc i Z s=(match Z[i]? with | some (some d)=>.ok d s | _=>.no):=id rfl
@[simp] theorem z25:eC d Z s=.ok d s:=id rfl
@[simp] theorem wB:eOp op fa fb Z s=(fa Z s).bind λx s1=>(fb Z s1).bind λy s2=>op x y s2:=id rfl
@[simp] theorem xi:zi M ar Z s=(ar Z s).bind λxs s1=>M xs s1:=id rfl
@[simp] theorem zH:zk Z s=.ok [] s:=id rfl
@[simp] theorem zo:za f ar Z s=(f Z s).bind λx s1=>(ar Z s1).bind λxs s2=>.ok (x::xs) s2:=id rfl
@[simp] theorem uH:qM ar Z s=(ar Z s).bind λxs s1=>if xs.length<=cap then .ok (.tup xs) s1 else .no:=id rfl
@[simp] theorem wo:ue ar Z s=(ar Z s).bind λxs s1=>if xs.length<=cap then .ok (.lst xs) s1 else .no:=id rfl
@[simp] theorem zbG:zek ar Z s=(ar Z s).bind λxs s1=>if xs.length<=cap/\D.flat.flats xs=true then .ok (.loc s1.length) (s1++[xs]) else .no:=id rfl
@[simp] theorem zlP:eIs T f Z s=(f Z s).bind λd s1=>gIs T d s1:=id rfl
@[simp] theorem ze4:z3Z f Z s=(f Z s).bind λd s1=>match d with | .int i=>.ok (.int (-i)) s1 | _=>.no:=id rfl
@[simp] theorem zgW:zjd f Z s=(f Z s).bind λx s1=>match x with | .bl k=>.ok (.bl (!k)) s1 | _=>.no:=id rfl
@[simp] theorem zeA:zcL fa fb Z s=(fa Z s).bind λx s1=>match x with | .bl true=>fb Z s1 | .bl false=>.ok (.bl false) s1 | _=>.no:=id rfl
@[simp] theorem zbu:eIf ft fa fb Z s=(ft Z s).bind λx s1=>if x=true then fa Z s1 else fb Z s1:=id rfl
@[simp] theorem z9G:eSl f fl fh Z s=(f Z s).bind λx s1=>(fl Z s1).bind λlo s2=>(fh Z s2).bind λhi s3=>dSl x lo hi s3:=id rfl
@[simp] theorem uP:yW Z s=.ok none s:=id rfl
@[simp] theorem z0u:uT f Z s=(f Z s).bind λd s1=>match d with | .int i=>.ok (some i) s1 | _=>.no:=id rfl
@[simp] theorem z7B:tOf f Z s=(f Z s).bind λd s1=>match d with | .bl k=>.ok k s1 | _=>.no:=id rfl
@[simp] theorem zbW:zhF ft ft' Z s=(ft Z s).bind λx s1=>if x=true then ft' Z s1 else .ok false s1:=id rfl
@[simp] theorem zku:fOr ft ft' Z s=(ft Z s).bind λx s1=>if x=true then .ok true s1 else ft' Z s1:=id rfl
@[simp] theorem zc6:z2E ft Z s=(ft Z s).bind λx s1=>.ok (!x) s1:=id rfl
@[simp] theorem zjp:z0d op op' fa fb fc Z s=(fa Z s).bind λx s1=>(fb Z s1).bind λy s2=>(op x y s2).bind λz s3=>match z with
 | .bl true=>(fc Z s3).bind λw s4=>op' y w s4 | .bl false=>.ok (.bl false) s3 | _=>.no:=id rfl
@[simp] theorem zha:zF fs fs' Z s=(fs Z s).bind λfl s1=>match fl with | .nx Z'=>fs' Z' s1 | fl=>.ok fl s1:=id rfl
@[simp] theorem zki:xA Z s=.ok (.nx Z) s:=id rfl
@[simp] theorem zlN:fNo Z s=.no:=id rfl
@[simp] theorem xB:wy f Z s=(f Z s).bind λ_ s1=>.ok (.nx Z) s1:=id rfl
@[simp] theorem xg:wK f Z s=(f Z s).bind λd s1=>.ok (.rt d) s1:=id rfl
@[simp] theorem z3d:fIf ft fs fs' Z s=(ft Z s).bind λx s1=>if x=true then fs Z s1 else fs' Z s1:=id rfl
@[simp] theorem ya:wj i f Z s=(f Z s).bind λd s1=>.ok (.nx (Z.set i (some d))) s1:=id rfl
@[simp] theorem ziV:zgM f fg Z s=(f Z s).bind λd s1=>(fg d Z s1).bind λZ' s2=>.ok (.nx Z') s2:=id rfl
@[simp] theorem zhj:zkV i j ar Z s=(ar Z s).bind λds s1=>match ds with | [x,y]=>.ok (.nx ((Z.set i (some x)).set j (some y))) s1 | _=>.no:=id rfl
@[simp] theorem zew:kb i d Z s=.ok (Z.set i (some d)) s:=id rfl
@[simp] theorem zeL:kw i j (.tup [x,y]) Z s=.ok ((Z.set i (some x)).set j (some y)) s:=id rfl
@[simp] theorem zgh:z69 fa fb fc Z s=(fc Z s).bind λd s1=>(fa Z s1).bind λo s2=>(fb Z s2).bind λi s3=>match o,i with
 | .loc l,.int k=>match s3[l]? with
  | some xs=>match ixN xs.length k with
   | some j=>if d.flat=true then .ok (.nx Z) (s3.set l (xs.set j d)) else .no | none=>.no
  | none=>.no
 | _,_=>.no:=id rfl
@[simp] theorem zfb:vx f Z s=(f Z s).bind λd s1=>match d with
 | .tup xs=>.ok (xs,[]) s1 | .lst xs=>.ok (xs,[]) s1 | .loc l=>match s1[l]? with | some xs=>.ok (xs,[(l,xs)]) s1 | none=>.no
 | _=>.no:=id rfl
@[simp] theorem zeo:z6T ar Z s=(ar Z s).bind λds s1=>match ds with
 | [.int j]=>if -(2 ^ 62)<=j/\j<2 ^ 62 then .ok (vb j.toNat,[]) s1 else .no | _=>.no:=id rfl
@[simp] theorem zfv:z92 ar Z s=(ar Z s).bind λds s1=>match ds with
 | [.int i,.int j]=>if -(2 ^ 62)<=i/\i<2 ^ 62/\-(2 ^ 62)<=j/\j<2 ^ 62 then .ok (kn i (j-i).toNat,[]) s1 else .no | _=>.no:=id rfl
@[simp] theorem zhT:zgR ar Z s=(ar Z s).bind λds s1=>match ds with
 | [x,y]=>match zd9 s1 x,zd9 s1 y with
  | some p,some q=>.ok (z6L p.1 q.1,p.2++q.2) s1 | _,_=>.no
 | _=>.no:=id rfl
@[simp] theorem z1b:zaA fi fg fs Z s=(fi Z s).bind λit s1=>vk it.2 it.1 (λd Z s=>(fg d Z s).bind λZ' s'=>fs Z' s') it.1 Z s1:=id rfl
@[simp] theorem z7z:z5n fi mp fg ft f Z s=(fi Z s).bind λit s1=>uc it.2 it.1 (λd s=>(fg d (yh mp Z) s).bind λZ' s'=>(ft Z' s').bind λb s2=>if b=true then (f Z' s2).bind λd s3=>.ok (some d) s3 else .ok none s2) it.1 [] s1:=id rfl
@[simp] theorem z8E:xQ fi mp fg ft f Z s=(z5n fi mp fg ft f Z s).bind λxs s1=>.ok (.lst xs) s1:=id rfl
@[simp] theorem zcf:z3K fi mp fg ft f Z s=(z5n fi mp fg ft f Z s).bind λxs s1=>if D.flat.flats xs=true then .ok (.loc s1.length) (s1++[xs]) else .no:=id rfl
@[simp] theorem zkK:z1p Z s=.ok true s:=id rfl
@[simp] theorem zbO:zgQ fa fb Z s=(fa Z s).bind λo s1=>match o with
 | .loc l=>(fb Z s1).bind λd s2=>match s2[l]? with
  | some xs=>if d.flat=true/\xs.length<cap then .ok .non (s2.set l (xs++[d])) else .no | none=>.no
 | _=>.no:=id rfl
@[simp] theorem ze0:yh [] Z=[]:=id rfl
@[simp] theorem zgN:yh (some i::mp) Z=(Z[i]?).getD none::yh mp Z:=id rfl
@[simp] theorem zgO:yh (none::mp) Z=none::yh mp Z:=id rfl
variable (a b:Int)(u v:Bool)(xs ys:List D)
@[simp] theorem z5M:vt (.int a) (.int b) s=.ok (.int (a+b)) s:=rfl
@[simp] theorem kQ:vt (.tup xs) (.tup ys) s=if xs.length+ys.length<=cap then .ok (.tup (xs++ys)) s else .no:=rfl
@[simp] theorem z5Z:vt (.lst xs) (.lst ys) s=if xs.length+ys.length<=cap then .ok (.lst (xs++ys)) s else .no:=rfl
@[simp] theorem zh8:ze1 (.int a) (.int b) s=.ok (.int (a-b)) s:=rfl
theorem zdY:qJ (.int a) (.int b) s=if a.natAbs<BIG/\b.natAbs<BIG then .ok (.int (a*b)) s else .no:=by
 simp only[qJ,dII,iOk];split<;>(rename_i h;split at h<;>simp_all)
theorem zb6:z79 (.int a) (.int b) s=if 0<b/\b.natAbs<BIG then .ok (.int (a / b)) s else .no:=by
 simp only[z79,dII,iOk];split<;>(rename_i h;split at h<;>simp_all)
theorem zhd:zb2 (.int a) (.int b) s=if 0<b then .ok (.int (a % b)) s else .no:=by
 simp only[zb2,dII,iOk];split<;>(rename_i h;split at h<;>simp_all)
theorem zbm:z30 (.int a) (.int b) s=if 0<=b/\b<=1000/\a.natAbs<1000 then .ok (.int (a ^ b.toNat)) s else .no:=by
 simp only[z30,dII,iOk];split<;>(rename_i h;split at h<;>simp_all)
@[simp] theorem zjW:dLt (.int a) (.int b) s=.ok (.bl (decide (a<b))) s:=rfl
@[simp] theorem zif:dLe (.int a) (.int b) s=.ok (.bl (decide (a<=b))) s:=rfl
@[simp] theorem zlv:dGt (.int a) (.int b) s=.ok (.bl (decide (b<a))) s:=rfl
@[simp] theorem zlD:dGe (.int a) (.int b) s=.ok (.bl (decide (b<=a))) s:=rfl
@[simp] theorem z9c:dEq (.int a) (.int b) s=.ok (.bl (decide (a=b))) s:=by
 have:eqD (.int a) (.int b)=decide (a=b):=by
  simp only[eqD,xK,PyData.eqv];rw[Bool.eq_iff_iff];simp
 rw[dEq,this];rfl
@[simp] theorem zka:dNe (.int a) (.int b) s=.ok (.bl (decide (a≠b))) s:=by
 have:eqD (.int a) (.int b)=decide (a=b):=by
  simp only[eqD,xK,PyData.eqv];rw[Bool.eq_iff_iff];simp
 rw[dNe,this,_e (by constructor<;>rfl)];simp
@[simp] theorem zlG:dEq (.bl u) (.bl v) s=.ok (.bl (u==v)) s:=by cases u<;>cases v<;>rfl
@[simp] theorem zlE:dNe (.bl u) (.bl v) s=.ok (.bl (u != v)) s:=by cases u<;>cases v<;>rfl
end
theorem zq{f g:FS}{Z Z':Ev}{s s':Sto}(h:f Z s=.ok (.nx Z') s'):zF f g Z s=g Z' s':=by simp[h]
theorem z3T{f g:FS}{Z:Ev}{s s':Sto}{d:D}(h:f Z s=.ok (.rt d) s'):zF f g Z s=.ok (.rt d) s':=by simp[h]
theorem jE{all:List D}{body:D->Ev->Sto->R Fl}(I:Nat->Ev->Sto->Prop):∀(xs:List D)(k:Nat),(∀j x,xs[j]? = some x->∀Z s,I (k+j) Z s->∃Z' s',body x Z s=.ok (.nx Z') s'/\I (k+j+1) Z' s')-> ∀Z s,I k Z s->∃Z' s',vk [] all body xs Z s=.ok (.nx Z') s'/\I (k+xs.length) Z' s'
 | [],k,_,Z,s,h=>⟨Z,s,by simp[vk,okG],h⟩ | x::xs,k,hb,Z,s,h=>by
  obtain⟨Z1,s1,e1,h1⟩:=hb 0 x (by simp) Z s h;obtain⟨Z2,s2,e2,h2⟩:=jE (all:=all) I xs (k+1) (λj y hy Z s hi=>by
   have e:k+1+j=k+(j+1):=by omega
   rw[e]at hi ⊢;exact hb (j+1) y (by simpa using hy) Z s hi) Z1 s1 h1;refine⟨Z2,s2,by simp[vk,okG,e1,e2],?_⟩;have e:k+(x::xs).length=k+1+xs.length:=by simp;omega
  rw[e];exact h2
theorem z6r{n j:Nat}{x:D}(h:(vb n)[j]? = some x):j<n/\x=.int j:=by
 have hj:j<n:=by
  have:=(_c.mp h).1;simpa[vb] using this
 refine⟨hj,?_⟩;simp only[vb,_V,_cq hj,_as,_D]at h;exact h.symm
theorem z9t {n:Nat} {x:D} (h:x∈vb n):∃j:Nat,j<n/\x=.int j:=by
 obtain⟨j,hj,e⟩:=_F.mp h;have:=z6r (n:=n) (j:=j) (x:=x) (by rw[_f hj,e]);exact⟨j,this.1,this.2⟩
theorem uW:∀(ns:List Int),D.flat.flats (ns.map D.int)=true
 | []=>rfl | n::ns=>by simp[D.flat.flats,D.flat,uW ns]
theorem z1v(i:Int):(D.int i).flat=true:=rfl
theorem uX.flatten{mg:Gm}{H H':Hp}{Y Y':List Addr}{ys:List D}{c:Addr}(k:∀b o,H b=some o->(∀vs,o≠.lst vs)->(∀kvs,o≠.dT kvs)->H' b=some o)(f:D.flat.flats ys=true)(e:H' c=H c)(h:uX mg H Y ys c):uX mg H' Y' ys c:=by
 rcases h with⟨vs,h1,h2⟩ | ⟨kvs,h1,h2⟩ | ⟨o,kvs,ys,h1,h2⟩;·exact .inl ⟨vs,e.trans h1,h2.flatten k f⟩
 ·exact .inr (.inl ⟨kvs,e.trans h1,h2⟩)
 ·exact .inr (.inr ⟨o,kvs,ys,e.trans h1,h2⟩)
end Dd
namespace Zz
open PySem.AutoSeq1 (wpAny_loadPart')
section
variable {P:Program}{w:World}{A:Around}{E:Value->Shared->Prop}{s:Shared}
theorem zgi {e it l:Addr} {b:Bool} {k:Nat} {xs:Array Value} {x old:Value} {Q:Option Value->Shared->Prop} (he:IsEnum s.heap e it k old) (h1:Sit b s.heap it l k) (c1:Sco b s.heap l xs) (ex:xs[k]? = some x) (ne:e≠it) (q:∀h',IsEnumOut h' e it ((k:Int)+1) x s.heap.objs.size->Sit b h' it l (k+1)->h'.get? s.heap.objs.size=some {cls:=.type "tuple",data:=.seq #[.int k s.toks,x]}-> (∀c o,c≠e->c≠it->s.heap.get? c=some o->h'.get? c=some o)->Q (some (.ref s.heap.objs.size)) {s with heap:=h',toks:=s.toks+1}):wpAny (model P w) A (pyNext (.ref e)) Q E s:=by
 have hT:s.TypeIs (.ref e) "enumerate":=⟨_,he,rfl⟩;unfold pyNext;refine _a (_bH (_P (name:=Str.ofString "__next__") hT _bp (_T _bp hT F.entry_enumerate_next (Q:=λv s'=>wpAny (model P w) A (pure (some v)) Q E s') ?_ (F.args_enumerate_next_1 _))));obtain⟨hp,g,d,tk,os⟩:=s;show wpAny _ _ (field (.ref e) 2 >>= _) _ _ _;refine _a (_W he rfl (x:=.ref it) rfl ?_);refine _a (nx h1 c1 ex λg1 t1 s1=>?_);replace s1:Heap.SameBut it hp g1:=s1;have e1:IsEnum g1 e it k old:=(s1.2 e ne).trans he;show wpAny _ _ (field (.ref e) 3 >>= _) _ _ ⟨g1,g,d,tk,os⟩;refine _a (_W e1 rfl (x:=rawInt k) rfl ?_);show wpAny _ _ (field (.ref e) 4 >>= _) _ _ ⟨g1,g,d,tk,os⟩;refine _a (_W e1 rfl (x:=.none) rfl ?_);show wpAny _ _ (mkInt k >>= _) _ _ ⟨g1,g,d,tk,os⟩;refine _a (wpAny_mkInt ?_);show wpAny _ _ (setField (.ref e) 3 (rawInt ((k:Int)+1)) >>= _) _ _ ⟨g1,g,d,tk+1,os⟩;refine _a (_Z e1 (by simp) λg2 e2 s2=>?_);replace s2:Heap.SameBut e g1 g2:=s2;replace e2:IsEnum g2 e it ((k:Int)+1) old:=e2;show wpAny _ _ (setField (.ref e) 4 .none >>= _) _ _ ⟨g2,g,d,tk+1,os⟩;refine _a (_Z e2 (by simp) λg3 e3 s3=>?_);replace s3:Heap.SameBut e g2 g3:=s3;replace e3:IsEnum g3 e it ((k:Int)+1) old:=e3;show wpAny _ _ (newTuple [.int k tk,x] >>= _) _ _ ⟨g3,g,d,tk+1,os⟩;refine _a (wpAny_newTuple ?_);have e4:IsEnum (g3.push {cls:=.type "tuple",data:=.seq #[.int k tk,x]}) e it ((k:Int)+1) old:=_d _ e3;generalize hg4:g3.push {cls:=.type "tuple",data:=.seq #[.int k tk,x]}=g4 at e4;have sz:g3.objs.size=hp.objs.size:=by rw[s3.1,s2.1,s1.1]
 have el:e<hp.objs.size:=_m he;have t4:g4.get? hp.objs.size=some {cls:=.type "tuple",data:=.seq #[.int k tk,x]}:=by rw[<- hg4,<- sz];exact _n _ rfl
 have k4:∀c o,c≠e->c≠it->hp.get? c=some o->g4.get? c=some o:=λc o n1 n2 z=>by rw[<- hg4];exact _d _ (zy s3 n1 (zy s2 n1 (zy s1 n2 z)))
 have i4:Sit b g4 it l (k+1):=t1.to λo z=>by rw[<- hg4];exact _d _ (zy s3 ne.symm (zy s2 ne.symm z))
 show wpAny _ _ (Builtin.SmallTypes.ownedTupleIsFree (.ref e) >>= _) _ _ ⟨g4,g,d,tk+1,os⟩;rw[sz];refine _a ?_;unfold Builtin.SmallTypes.ownedTupleIsFree;refine _a (_W e4 rfl (x:=.none) rfl (_b ?_));simp only[_G];refine _a (_a2 ?_);refine _a (_W e4 rfl (x:=old) rfl ?_);refine _a (_Z e4 (by simp) λg5 e5 s5=>?_);replace s5:Heap.SameBut e g4 g5:=s5;replace e5:IsEnum g5 e it ((k:Int)+1) x:=e5;show wpAny _ _ (Builtin.SmallTypes.ownedTupleHandOut (.ref e) (.ref hp.objs.size) >>= _) _ _ ⟨g5,g,d,tk+1,os⟩;refine _a ?_;unfold Builtin.SmallTypes.ownedTupleHandOut;refine _a (_Z e5 (by simp) λg6 e6 s6=>?_);replace s6:Heap.SameBut e g5 g6:=s6;replace e6:IsEnumOut g6 e it ((k:Int)+1) x hp.objs.size:=e6;refine _Z e6 (by simp) λg7 e7 s7=>?_;replace s7:Heap.SameBut e g6 g7:=s7;replace e7:IsEnumOut g7 e it ((k:Int)+1) x hp.objs.size:=e7;have up:∀c o,c≠e->g4.get? c=some o->g7.get? c=some o:=λc o n z=>zy s7 n (zy s6 n (zy s5 n z));refine _a (_bv (_b ⟨_,rfl,_b (q g7 e7 (i4.to λo z=>up _ o ne.symm z) (up _ _ (_cs el) t4) λc o n1 n2 z=>up c o n1 (k4 c o n1 n2 z))⟩))
theorem zjc {e it l:Addr} {b:Bool} {k:Nat} {xs:Array Value} {old:Value} {Q:Option Value->Shared->Prop} (hh:A.handled=none) (he:IsEnum s.heap e it k old) (h1:Sit b s.heap it l k) (c1:Sco b s.heap l xs) (ex:xs[k]? = none) (q:∀h',Heap.ExtBut it s.heap h'->Q none {s with heap:=h'}):wpAny (model P w) A (pyNext (.ref e)) Q E s:=by
 have hT:s.TypeIs (.ref e) "enumerate":=⟨_,he,rfl⟩;unfold pyNext;refine _a (_bH (_P (name:=Str.ofString "__next__") hT _bp (_T _bp hT F.entry_enumerate_next ?_ (F.args_enumerate_next_1 _))));show wpAny _ _ (field (.ref e) 2 >>= _) _ _ _;refine _a (_W he rfl (x:=.ref it) rfl ?_);refine _a (zas hh h1 c1 ex λh' x he' hx'=>?_);obtain⟨o,ho,hc⟩:=hx';refine _a (_bA (T:="StopIteration") (b:=true) ⟨o,ho,hc⟩ isSubtype_stop ?_);exact _b (q _ he')
end
theorem zdQ(b:Bool)(l:Addr)(xs:Array Value): Meets (Builtin.«enumerate.__new__» ⟨[.type "enumerate",.ref l],[]⟩) (λ_ R s=>Sco b s.heap l xs/\R (.ok (.ret (.ref (s.heap.push (itO b l)).objs.size))) {s with heap:=(s.heap.push (itO b l)).push {cls:=.type "enumerate",data:=.fields #[.none,.bool false,.ref s.heap.objs.size,rawInt 0,.none,.none]}}):= .of_wp λprog w A R s h=>by
  obtain⟨hp,g,d,tk,os⟩:=s;obtain⟨c1,h⟩:=h;have hsub:=sub_enumerate;have q1:Sco b (Shared.heap ⟨hp,g,d,tk,os⟩) l xs:=c1;obtain⟨o,hl⟩:∃o,hp.get? l=some o:=by cases b with
   | true=>obtain⟨o,e,_⟩:=c1;exact⟨o,e⟩ | false=>obtain⟨o,e,_⟩:=c1;exact⟨o,e⟩
  wp_walk using _aj hl;refine wpAny_stack_any λst=>_b ?_;split
  ·rename_i c _ _ _ _ _;cases (c==Value.type "enumerate")
   ·wp_walk using _aj hl,z3J q1;exact⟨_,rfl,h⟩
   ·wp_walk using _aj hl,z3J q1;exact⟨_,rfl,h⟩
  ·wp_walk using _aj hl,z3J q1;exact⟨_,rfl,h⟩
section
variable {P:Program}{w:World}{A:Around}{E:Value->Shared->Prop}{s:Shared}
theorem zfR {b:Bool} {l:Addr} {xs:Array Value} {Q:Value->Shared->Prop} (c1:Sco b s.heap l xs) (h:∀h',IsEnum h' (s.heap.objs.size+1) s.heap.objs.size 0 .none->Sit b h' s.heap.objs.size l 0->(∀c o,s.heap.get? c=some o->h'.get? c=some o)->Q (.ref (s.heap.objs.size+1)) {s with heap:=h'}): wpAny (model P w) A (call (.type "enumerate") [.ref l]) Q E s:=by
 refine callType_new F.called_enumerate (by decide) (F.typeCall_enumerate_1 _) (F.newCall_enumerate_1 _) (λobj=>F.args_object_init_2 obj _) F.entry_enumerate_new (zdQ b l xs) ⟨c1,?_⟩;have z1:(s.heap.push (itO b l)).objs.size=s.heap.objs.size+1:=_ak ..;have g2:=_n (s.heap.push (itO b l)) (o:={cls:=.type "enumerate",data:=.fields #[.none,.bool false,.ref s.heap.objs.size,rawInt 0,.none,.none]}) rfl;have g1:((s.heap.push (itO b l)).push {cls:=.type "enumerate",data:=.fields #[.none,.bool false,.ref s.heap.objs.size,rawInt 0,.none,.none]}).get? s.heap.objs.size=some (itO b l):=_d _ (_n _ (z1z b l));show _/\_;rw[z1]at g2;rw[z1];exact⟨⟨_,g2,rfl⟩,h _ g2 (z5K g1) λc o e=>_d _ (_d _ e)⟩
end
end Zz
namespace L2
open Zz
def Ite(K:W.Frag)(b:Bool)(l:Addr):It:= ⟨λi H=>∃xs x,Sq b K H l xs/\xs[i]? = some x, λi H v H'=>∃T x,H T=none/\v=.ref T/\H'=upd H T (.tup [.int i,x])/\∀xs,Sq b K H l xs->xs[i]? = some x, λi H=>∃xs,Sq b K H l xs/\xs.length<=i⟩
theorem zbf {P:Program} {w:World} {K:W.Frag} {elts:List Expr} {kt:Nat} {tp:Pos} {b:Bool} {e it l:Addr} (ne:e≠it): zcK P w K (.Tuple elts kt tp) (Ite K b l) [e,it] e (λi h=>(∃old,IsEnum h e it ((i:Nat):Int) old)/\Sit b h it l i) where
 mem:=by simp
 obj:=λi h ⟨⟨old,he⟩,h1⟩ c hc=>by
  have hc':c=e\/c=it:=by simpa using hc
  rcases hc' with rfl | rfl;·exact⟨_,he,λv z=>by simp at z⟩
  ·exact h1.ob
 keep:=λi h h' ⟨⟨old,he⟩,h1⟩ k=>⟨⟨old,k e (by simp) _ he⟩,h1.to λo z=>k it (by simp) o z⟩;item:=by
  intro X hP hw hK hc i pins s O H E I hf ⟨⟨old,he⟩,h1⟩ ⟨xs,x,qx,ex⟩;subst hP hw hK;obtain⟨ix,rx,cx⟩:=I.sq qx;obtain⟨u,hu,ru⟩:=rx.get ex;refine zgi he h1 cx (x:=u) (by simpa using hu) ne λg a1 a2 a3 hk=>⟨_,rfl,?_⟩;have I1:Inv X pins O H {s with heap:=g,toks:=s.toks+1}:=I.turnedL (t':=s.toks+1) (ch:=[e,it]) (λc o n z=>hk c o (λt=>n (by simp[t])) (λt=>n (by simp[t])) z) hf;refine wpAny_letOwnedTupleGo_enum a1 λg2 e2 s2=>?_;obtain⟨f0,f1,f2,f3,f4,f5⟩:=hf e (by simp);have I2:Inv X pins O H {s with heap:=g2,toks:=s.toks+1}:=I1.turned (t':=s.toks+1) (λc o n z=>zy s2 n z) f0 f1 f3 f4 f5;have new:z3v X pins H s.heap.objs.size:=I.fpOk (_h _) (I.hok.fresh (_h _));have el:e≠s.heap.objs.size:=_y (_m he);have p2:g2.get? s.heap.objs.size=some {cls:=.type "tuple",data:=.seq #[.int i s.toks,u]}:=zy s2 el.symm a3;refine⟨.ref s.heap.objs.size,upd H s.heap.objs.size (.tup [.int i,x]),I2.track new ⟨?_,[.int i s.toks,u],.cons ⟨_,rfl⟩ (.cons ru .nil),⟨_,p2,rfl,rfl,_,rfl⟩⟩,rfl,⟨_,x,new.1,rfl,rfl,λzs qz=>?_⟩,⟨⟨_,by simpa using e2⟩,a2.to λo z=>zy s2 ne.symm z⟩,λc hc=>?_⟩;·show 2<=sizeLine;decide
  ·rw[I.sq_inj qz qx];exact ex
  ·have hc':c=e\/c=it:=by simpa using hc
   have:c≠s.heap.objs.size:=by
    rcases hc' with rfl | rfl;·exact el
    ·exact _y h1.lt
   rw[zE this];exact (hf c hc).1
 done:=by
  intro X hP hw hK hc i pins s O H E I hf ⟨⟨old,he⟩,h1⟩ ⟨xs,qx,hl⟩;subst hP hw hK;obtain⟨ix,rx,cx⟩:=I.sq qx;have lx:=rx.length;obtain⟨f0,f1,f2,f3,f4,f5⟩:=hf it (by simp);exact zjc (I.ok.hd hc) he h1 cx (by simp;omega) λg hk=>⟨rfl,I.turned (t':=s.toks) (λc o n z=>hk c o n z) f0 f1 f3 f4 f5⟩
 self:=λ_ _ _ _ _ ⟨⟨_,he⟩,_⟩ h=>wpAny_pyIter_enum he h
theorem zfr{X:Cx}{elts:List Expr}{kt:Nat}{tp:Pos}{a:Expr}{ta:TA}{p pos:Pos}(hg:Gl X "enumerate")(hm:X.mg "enumerate"=none)(ha:PA X [a] ta)(hs:starEach [a] X.env=(false,eval a X.env)::starEach [] X.env:=by rfl)(hpl:(backTo pos (starEach [] X.env)).any (·.1)=false:=by rfl): PI X (.Tuple elts kt tp) (.Call (.Name "enumerate" p) [a] [] pos) (λO H R=>ta O H λvs H1=>∃l b,vs=[.ref l]/\(∃xs,Sq b X.K H1 l xs)/\R (Ite X.K b l) H1):=by
 intro pins s O H R I h;refine _ag (z0a I hg hm (u:=.type "enumerate") (by decide +kernel) ?_ (by decide) (by decide));refine _aa (thn (ha pos pins s O H _ I h) λus s1 ⟨vs,H1,I1,r1,q1⟩=>?_) hs hpl;obtain⟨l,b,rfl,⟨xs,qx⟩,q⟩:=q1;obtain⟨u,rfl,ru⟩:=vals1 r1;cases ru;obtain⟨ix,rx,cx⟩:=I1.sq qx;refine zfR cx λg he h1 hk=>?_;refine wpAny_pyIter_enum he ?_;refine⟨_,_,_,_,H1,rfl,I1.kept (t':=s1.toks) hk,zbf (Nat.succ_ne_self _),⟨⟨_,he⟩,h1⟩,λc hc=>?_,q⟩;have hc':s1.heap.objs.size<=c:=by
  have:c=s1.heap.objs.size+1\/c=s1.heap.objs.size:=by simpa using hc
  rcases this with rfl | rfl;·exact Nat.le_succ _
  ·exact _h _
 exact I1.fpOk hc' (I1.hok.fresh hc')
end L2
namespace L2
end L2
namespace Dd
open L2
section
variable {X:Cx}{E:XK}{e a b c tg iter elt:Expr}{es:List Expr}{pos:Pos}{CX:CXT}
noncomputable def zlH(i j k:Nat)(f:FA):FS:=λZ s=>(f Z s).bind λds s1=>match ds with | [x,y,z]=>.ok (.nx (((Z.set i (some x)).set j (some y)).set k (some z))) s1 | _=>.no
def z31:Nat->List D->List D
 | _,[]=>[] | i,x::xs=>.tup [.int i,x]::z31 (i+1) xs
theorem z0P:∀(i:Nat)(xs:List D),(z31 i xs).length=xs.length
 | _,[]=>rfl | i,x::xs=>by simp[z31,z0P (i+1) xs]
theorem z8u:∀{i k:Nat}{xs:List D}{d:D},(z31 i xs)[k]? = some d->∃x,xs[k]? = some x/\d=.tup [.int ((i+k:Nat):Int),x]
 | _,_,[],_,h=>by simp[z31]at h | i,0,x::xs,d,h=>by simp[z31]at h;exact⟨x,by simp,by simp[h]⟩ | i,k+1,x::xs,d,h=>by
  simp only[z31,_t]at h;obtain⟨y,h1,h2⟩:=z8u h;refine⟨y,by simpa using h1,?_⟩;rw[h2,show i+1+k=i+(k+1) by omega]
noncomputable def za4(f:FA):FI:=λZ s=>(f Z s).bind λds s1=>match ds with
 | [x]=>match zd9 s1 x with
  | some p=>.ok (z31 0 p.1,p.2) s1 | none=>.no
 | _=>.no
theorem ziS{p tp:Pos}{elts:List Expr}{kt:Nat}{f:FA}(hg:Gl X "enumerate")(hm:X.mg "enumerate"=none)(ha:RA X E [a] f)(hs:starEach [a] X.env=(false,eval a X.env)::starEach [] X.env:=by rfl)(hpl:(backTo pos (starEach [] X.env)).any (·.1)=false:=by rfl): RI X E (.Tuple elts kt tp) (.Call (.Name "enumerate" p) [a] [] pos) (za4 f):= z3A (zfr hg hm ha hs hpl) λO H Q ⟨Y,Z,s,r,en,h⟩=>by
  unfold za4 at h;refine⟨Y,Z,s,r,en,(okR.bind (Dn:=zu (gm X)) h).imp λvs H1 ⟨Y1,s1,ds,stp,dn,h1⟩=>?_⟩;split at h1
  ·rename_i x;split at h1
   ·rename_i p ex;obtain⟨xs,gx⟩:=p;obtain⟨v,rfl,d1⟩:=z36 dn;obtain⟨og1,b1,a1,rfl,k1⟩:=z7e stp.rep ex d1;obtain⟨w1,q1,_⟩:=k1 H1 Y1 s1 (.refl stp.rep) og1;refine⟨a1,b1,rfl,⟨w1,q1⟩,h1.here stp.rep λH2 Y2 s2 stp2 og i=>⟨λd hd=>?_,λhl=>?_⟩⟩
    ·obtain⟨x,e1,rfl⟩:=z8u hd;obtain⟨w1,q1,n1⟩:=k1 H2 Y2 s2 stp2 og;obtain⟨u1,g1,m1⟩:=n1.get e1;refine⟨⟨w1,u1,q1,g1⟩,λz H' ⟨T,p,hT,ez,eH,hp⟩=>?_⟩;subst ez eH;have e3:=hp w1 q1;rw[g1]at e3;cases e3;have st3:=xx.lay (o:=.tup [.int i,u1]) stp2.rep hT (by intro _ z;cases z);refine⟨Y2,st3,?_⟩;simp only[Den,_E];exact⟨T,[.int i,u1],rfl,zN,(zu.cons yq (zu.one m1)).mono st3⟩
    ·obtain⟨w1,q1,n1⟩:=k1 H2 Y2 s2 stp2 og;refine⟨w1,q1,?_⟩;rw[n1.length];simpa only [z0P] using hl
   ·exact h1.elim
  ·exact h1.elim
def zd0(x y:D)(s:Sto):R D:=match listOf s x,listOf s y with
 | some a,some b=>if a.length+b.length<=cap/\D.flat.flats (a++b)=true then .ok (.loc s.length) (s++[a++b]) else .no | _,_=>.no
theorem ziZ:∃r,OpR X (binaryOp .Add) r/\OpF X E r zd0:=⟨_,z9W,λH Y s d1 d2 v1 v2 Q r h1 h2 h=>by
 unfold zd0 at h;split at h
 ·rename_i xs ys ex ey;split at h
  ·rename_i hc;obtain⟨l,vs,e,q1,q2⟩:=zG r ex h1;obtain⟨l',vs',e',q1',q2'⟩:=zG r ey h2;exact⟨l,l',vs,vs',e,e',q1,q1',by rw[q2.length,q2'.length];exact ui hc.1,z9Y r h hc.2 (q2.append q2')⟩
  ·exact h.elim
 ·exact h.elim⟩
end
end Dd
namespace L2
theorem z1U:∀{xs:List V}{us:List Value},us.length=xs.length->(∀(j:Nat) u,us[j]? = some u->∃x,xs[j]? = some x/\yr x u)->yw xs us
 | [],[],_,_=>.nil | [],_::_,h,_=>by simp at h | _::_,[],h,_=>by simp at h | x::xs,u::us,h,k=>by
  obtain⟨y,e,r⟩:=k 0 u (by simp);have:y=x:=by simpa using e.symm
  subst this;exact .cons r (z1U (by simpa using h) λj v hv=>k (j+1) v (by simpa using hv))
end L2
namespace Dd
open L2
noncomputable def uK(ft:FT)(fb:FS):Nat->Ev->Sto->R Fl
 | 0,_,_=>.no | k+1,Z,s=>(ft Z s).bind λb s1=>if b=true then (fb Z s1).bind λfl s2=>match fl with
   | .nx Z'=>uK ft fb k Z' s2 | .ct Z'=>uK ft fb k Z' s2 | .bk Z'=>.ok (.nx Z') s2 | .rt d=>.ok (.rt d) s2 else .ok (.nx Z) s1
theorem z0y{ft:FT}{fb:FS}:∀{k:Nat}{Z:Ev}{s:Sto},uK ft fb k Z s≠.no->uK ft fb (k+1) Z s=uK ft fb k Z s
 | 0,Z,s,h=>absurd rfl h | k+1,Z,s,h=>by
  rw[uK]at h ⊢;conv=>rhs;rw[uK]
  cases e:ft Z s with
  | no=>rfl | ex c t=>rfl | ok b s1=>
   rw[e]at h;simp only[Rb]at h ⊢;cases b with
   | false=>rfl | true=>
    rw[_e rfl]at h ⊢;rw[_e rfl];cases e2:fb Z s1 with
    | no=>rfl | ex c t=>rfl | ok fl s2=>
     rw[e2]at h;simp only[Rb]at h ⊢;cases fl with
     | nx Z'=>exact z0y h | ct Z'=>exact z0y h | bk Z'=>rfl | rt d=>rfl
theorem z8h{ft:FT}{fb:FS}{k m:Nat}{Z:Ev}{s:Sto}(h:uK ft fb k Z s≠.no)(hm:k<=m):uK ft fb m Z s=uK ft fb k Z s:=by induction hm with
 | refl=>rfl | step _ ih=>rw[z0y (by rw[ih];exact h),ih]
open Classical in
noncomputable def z6u(ft:FT)(fb:FS):FS:=λZ s=>if h:∃k,uK ft fb k Z s≠.no then uK ft fb h.choose Z s else .no
theorem zdk{ft:FT}{fb:FS}{k:Nat}{Z:Ev}{s:Sto}{r:R Fl}(h:uK ft fb k Z s=r)(hr:r≠.no):z6u ft fb Z s=r:=by
 subst h;have hx:∃k,uK ft fb k Z s≠.no:=⟨k,hr⟩;unfold z6u;rw[dif_pos hx];rcases Nat.le_total k hx.choose with z | z;·exact z8h hr z
 ·exact (z8h hx.choose_spec z).symm
theorem zft {X:Cx} {E:XK} {c:Expr} {body:List Stmt} {pos:Pos} {ft:FT} {fb:FS} (hp:PassesOwn (model X.prog X.w) X.A X.env X.xe) (hc:RT X E c ft) (hb:RSs X E body fb):RS X E (.While c body [] pos) (z6u ft fb):= vA (zdD hp hc hb) λD O H ⟨Y,Z,s,r,en,h⟩=>by
  unfold z6u at h;split at h
  ·rename_i hx;refine⟨λm O H=>∃Y Z s,Rep (gm X) H Y s/\ua (gm X) H Y Z O/\okR (gm X) E H Y (FlD (gm X)) (uK ft fb m Z s) (z3k D),⟨_,Y,Z,s,r,en,h⟩,?_⟩;rintro m O H ⟨Y,Z,s,r,en,h⟩;cases m with
   | zero=>exact h.elim | succ m=>
    rw[uK]at h;refine⟨Y,Z,s,r,en,(okR.bind (Dn:=bD) h).imp λb H1 ⟨Y1,s1,b',stp,eb,h1⟩=>?_⟩;cases (show b'=b from eb);cases b with
    | false=>
     rw[_j (by decide)]at h1 ⊢;exact okR.here (b:=FlV.nx O) (Q:=z3k D) h1 stp.rep (en.mono stp) | true=>
     rw[_e rfl]at h1 ⊢;refine⟨λO' H'=>∃Y Z s,Rep (gm X) H' Y s/\ua (gm X) H' Y Z O'/\okR (gm X) E H' Y (FlD (gm X)) (uK ft fb m Z s) (z3k D),λO' H' q=>⟨m,_ba _,q⟩,Y1,Z,s1,stp.rep,en.mono stp,(okR.bind (Dn:=FlD (gm X)) h1).imp λfv H2 ⟨Y2,s2,fl,stp2,dn,h2⟩=>?_⟩;cases fl with
     | nx Z'=> cases fv with
      | nx O'=>exact⟨Y2,Z',s2,stp2.rep,dn,h2⟩ | _=>exact (show False from dn).elim
     | ct Z'=> cases fv with
      | ct O'=>exact⟨Y2,Z',s2,stp2.rep,dn,h2⟩ | _=>exact (show False from dn).elim
     | bk Z'=> cases fv with
      | bk O'=>exact okR.here (b:=FlV.nx O') (Q:=z3k D) (a:=Fl.nx Z') (s:=s2) h2 stp2.rep dn | _=>exact (show False from dn).elim
     | rt d=> cases fv with
      | rt v=>exact okR.here (b:=FlV.rt v) (Q:=z3k D) (a:=Fl.rt d) (s:=s2) h2 stp2.rep dn | _=>exact (show False from dn).elim
  ·exact h.elim
end Dd
namespace PySem
open PySem.AutoSeq1 (wpAny_loadPart')
open MeetsSeq MeetsSeq2 SeqAt
theorem z91{M:Model}{A:Around}{E:Value->Shared->Prop}{s:Shared}{β:Type}(f:Nat->β->Sem (ForInStep β))(I:Nat->β->Shared->Prop)(Q:β->Shared->Prop)(n:Nat) (turn:∀i b s,i<n->I i b s->wpAny M A (f i b) (λr s'=>match r with | .yield b'=>I (i+1) b' s' | .done b'=>Q b' s') E s) (fin:∀b s,I n b s->Q b s)(b:β)(h:I 0 b s):wpAny M A (forIn ([0:n]:Std.Legacy.Range) b f) Q E s:=by
 rw[Std.Legacy.Range.forIn_eq_forIn_range'];simp only[Std.Legacy.Range.size,Nat.sub_zero,Nat.add_sub_cancel,Nat.div_one];refine _c8 f (λke b s'=>∃i,ke=List.range' i (n-i)/\i<=n/\I i b s') _ ?_ ?_ _ _ ⟨0,by simp,_am _,h⟩
 ·rintro x ke b s' ⟨i,hr,hi,hI⟩;have hlt:i<n:=by
   rcases Nat.lt_or_ge i n with h | h;·exact h
   ·rw[Nat.sub_eq_zero_of_le h]at hr;simp at hr
  obtain⟨rfl,hrest⟩:x=i/\ke=List.range' (i+1) (n-(i+1)):=by
   have e:n-i=(n-(i+1))+1:=by omega
   rw[e,List.range'_succ]at hr;injection hr with h1 h2;exact⟨h1,h2⟩
  refine _r (turn x b s' hlt hI) (λr s2 hr=>?_) λ_ _ h'=>h';cases r with
  | done b'=>exact hr | yield b'=>exact⟨x+1,hrest,hlt,hr⟩
 ·rintro b s' ⟨i,hr,hi,hI⟩;have:i=n:=by
   have:=_a0 List.length hr;simp at this;omega
  subst this;exact fin _ _ hI
theorem z3c (l:Addr) (items:Array Value) (n:Nat) (dd:Option Addr) (sl:Array (Option Value)) (x:Value) (e:Value->Bool) (j:Nat) (hj:j<items.size) (hit:e items[j]=true) (hno:∀m (hm:m<items.size),m<j->e items[m]=false): Meets (Builtin.«tuple.index» ⟨[.ref l,x],[]⟩) (λA R s=>s.heap.get? l=some {cls:=.type "tuple",dict:=dd,data:=.seq items n,slots:=sl}/\(∀y,y∈items->EqAt A.in1 s y x (e y))/\R (.ok (.ret (.int j s.toks))) {s with toks:=s.toks+1}):= .of_wp λprog w A R s h=>by
  obtain⟨hp,g,d,tk,os⟩:=s;obtain⟨hl,he,h⟩:=h;have hm:min items.size items.size=items.size:=Nat.min_self _;wp_walk using _aj hl,z91 _ (λi b s'=>b.1=none/\s'=⟨hp,g,d,tk,os⟩/\i<=j) _ _;case turn=>
   rintro i ⟨b1,b2⟩ s' hi ⟨hb,rfl,hij⟩;simp only at hb;subst hb;rw[hm]at hi;rw[Array.getElem?_eq_getElem hi];refine _a (he _ (Array.getElem_mem hi) prog w _ _ ?_);rcases Nat.lt_or_eq_of_le hij with lt | rfl
   ·rw[hno i hi lt];wp_walk;exact⟨rfl,rfl,lt⟩
   ·rw[hit];wp_walk;exact⟨_,rfl,h⟩
  case fin=>
   rintro⟨b1,b2⟩ s' ⟨hb,rfl,hij⟩;rw[hm]at hij;omega
  case h=>exact⟨rfl,rfl,_am _⟩
end PySem
namespace L2
section
variable {X:Cx}{o e:Expr}{to:TE}{t:TA}{name:Str}{apos cpos:Pos}{id:String}{r:V->List V->Hp->VK->Prop}
theorem zhb(slot:Slot "tuple" name id)(hty:typeOf (.builtin id)=pure (.type "method_descriptor"))(hm:MtR X id r)(ho:PE X o to)(ha:PA X [e] t) (hbase:attributeBase o name X.env (eval o X.env)=eval o X.env:=by rfl) (hfew:((backTo cpos (starEach [e] X.env)).all (λx=>!x.1)&&(backToKw cpos (keywordEach [] X.env)).all (λx=>x.1.isSome) && decide ([e].length+([]:List Keyword).length+(if ([]:List Keyword).isEmpty then 0 else 1)<30))=true:=by rfl) (hline:(apos.endLine==cpos.line)=true:=by rfl)(hs:starEach [e] X.env=(false,eval e X.env)::starEach [] X.env:=by rfl)(hplain:(backTo cpos (starEach [] X.env)).any (·.1)=false:=by rfl): PE X (.Call (.Attribute o name apos) [e] [] cpos) (λO H Q=>to O H λx H1=>(∃p vs,x=.ref p/\H1 p=some (.tup vs))/\t O H1 λxs H2=>r x xs H2 Q):=by
 intro pins s O H Q I h;refine wpAny_Call_method_late hbase hfew hline rfl (thn (ho pins s O H _ I h) λv s1 ⟨x,H1,I1,r1,ty,q1⟩=>?_);obtain⟨p,vs,rfl,hp⟩:=ty;cases r1;obtain⟨_,its,_,ob,e1,c1,d1,n,w1⟩:=I1.hok p _ hp;refine⟨"tuple",id,PySem.F.plainAttrs_tuple,slot,hty,⟨ob,e1,c1⟩,λa e=>?_,?_⟩
 ·cases e;exact⟨ob,e1,d1⟩
 have hA:=ha cpos pins s1 O H1 _ I1 q1;rw[hs]at hA ⊢;refine _bX (by show (false||(backTo cpos (starEach [] X.env)).any (·.1))=false;rw[hplain]<;>rfl) (_bu ?_);exact thn hA λus s2 ⟨vs,H2,I2,r2,q2⟩=>hm pins s2 O H2 (.ref p) vs _ us Q I2 rfl r2 q2
theorem z0H:∀{ns:List Int}{its:List Value},yw (ns.map V.int) its->IntsAre its ns
 | [],_,.nil=>.nil | n::ns,_,.cons r rs=>by
  obtain⟨t,rfl⟩:=r;exact .cons n t (z0H rs)
def zkY:V->List V->Hp->VK->Prop:=λx vs H Q=>∃(p:Addr)(ns:List Int)(k:Int),x=.ref p/\vs=[.int k]/\H p=some (.tup (ns.map V.int))/\k∈ns/\Q (.int (ns.idxOf k:Nat)) H
theorem z7t:MtR X "tuple.index" zkY:=by
 intro pins s O H x vs v us Q I rx rv h;obtain⟨p,ns,k,rfl,rfl,hp,hk,q⟩:=h;cases rx;obtain⟨u,rfl,⟨t,rfl⟩⟩:=vals1 rv;obtain⟨_,its,r,ob,e1,c1,d1,n,w1⟩:=I.hok p _ hp;have hi:=z0H r;have hlen:=hi.length;have hj:ns.idxOf k<ns.length:=List.idxOf_lt_length_iff.mpr hk;obtain⟨cls,dd,data,sl⟩:=ob;simp only at c1 d1 w1;subst c1 d1 w1;refine _bd PySem.F.slot_tuple_index ⟨_,e1,rfl⟩ PySem.F.entry_tuple_index (PySem.F.args_tuple_index_2 _ _) (z3c p its.toArray n _ sl (.int k t) (isInt k) (ns.idxOf k) (by simpa[hlen] using hj) ?_ ?_) ⟨e1,λy hy=>(eq_isInt k t hi y (by simpa using hy)).at _ _,?_⟩
 ·show isInt k its[ns.idxOf k]=true;rw[isInt_at k hi _ (by omega) hj];simpa using _cB hj
 ·intro j hjs hlt;show isInt k its[j]=false;rw[isInt_at k hi j (by simpa using hjs) (by omega)];exact ne_of_lt_idxOf hlt _
 ·exact⟨.int (ns.idxOf k:Nat),H,I.kept (λb o e=>e),⟨s.toks,rfl⟩,q⟩
end
end L2
namespace Dd
open L2
section
variable {X:Cx}{E:XK}{o e:Expr}{pos:Pos}
noncomputable def zbH(fo fv:FE):FE:=λZ s=>(fo Z s).bind λo s1=>match o with
 | .tup ds=>(fv Z s1).bind λd s2=>match intsOf ds,d with
  | some ns,.int k=>if k∈ns then .ok (.int (ns.idxOf k:Nat)) s2 else .no | _,_=>.no
 | _=>.no
theorem z50{apos:Pos}{fo fv:FE}(ho:RE X E o fo)(hv:RE X E e fv)(hbase:attributeBase o "index" X.env (eval o X.env)=eval o X.env:=by rfl) (hfew:((backTo pos (starEach [e] X.env)).all (λx=>!x.1)&&(backToKw pos (keywordEach [] X.env)).all (λx=>x.1.isSome) && decide ([e].length+([]:List Keyword).length+(if ([]:List Keyword).isEmpty then 0 else 1)<30))=true:=by rfl) (hline:(apos.endLine==pos.line)=true:=by rfl)(hs:starEach [e] X.env=(false,eval e X.env)::starEach [] X.env:=by rfl)(hplain:(backTo pos (starEach [] X.env)).any (·.1)=false:=by rfl): RE X E (.Call (.Attribute o "index" apos) [e] [] pos) (zbH fo fv):= zL (zhb PySem.F.slot_tuple_index PySem.F.type_tuple_index z7t ho (wS hv kY hs) hbase hfew hline hs hplain) λO H Q ⟨Y,Z,s,r,en,h⟩=>by
  unfold zbH at h;refine⟨Y,Z,s,r,en,(okR.bind (Dn:=Den (gm X)) h).imp λov H1 ⟨Y1,s1,od,stp,dn,h1⟩=>?_⟩;cases od with
  | tup ds=>
   simp only at h1;have hty:∃p vs,ov=.ref p/\H1 p=some (.tup vs):=by
    simp only[Den]at dn;obtain⟨a,vs,rfl,e1,_⟩:=dn;exact⟨a,vs,rfl,e1⟩
   refine⟨hty,⟨Y1,Z,s1,stp.rep,en.mono stp,(okR.bind (Dn:=Den (gm X)) h1).imp λv H2 ⟨Y2,s2,d,stp2,dn2,h2⟩=>?_⟩⟩;split at h2
   ·rename_i ns k ei;split at h2
    ·rename_i hk;have dov:=dn.mono stp2;simp only[Den]at dov;obtain⟨a,vs,rfl,e1,e2⟩:=dov;rw[kI ei]at e2;cases kJ e2;cases zT dn2;exact⟨a,ns,k,rfl,rfl,e1,hk,okR.here h2 stp2.rep yq⟩
    ·exact h2.elim
   ·exact h2.elim | _=>exact h1.elim
@[simp] theorem zh5 (fo fv:FE)(Z:Ev)(s:Sto):zbH fo fv Z s=(fo Z s).bind λo s1=>match o with
 | .tup ds=>(fv Z s1).bind λd s2=>match intsOf ds,d with
  | some ns,.int k=>if k∈ns then .ok (.int (ns.idxOf k:Nat)) s2 else .no | _,_=>.no
 | _=>.no:=id rfl
end
def zfy(P:Program)(w:World)(K:W.Frag)(mg:Str->Option Value)(x:Str)(tb:List (Str×Str)):Prop:= ∃a o es ep,mg x=some (.ref a)/\(a==sysModules)=false/\K.lookup a=some o/\o.ExactDict/\o.data=.dict es ep/\PySem.KeysOf (zK P w) es/\ (∀k y,tb.lookup k=some y->∃f,findBy (zK P w).is es (.inr k)=some (.ref f)/\mg y=some (.ref f))/\∀k,tb.lookup k=none->findBy (zK P w).is es (.inr k)=none
theorem z5z{P:Program}{w:World}{k:Str}{u:Value}(r:yr (.str k) u):(zK P w).is (.inr k) u=true:=by
 obtain⟨t,e⟩:=(show ∃t,u=Value.str k t from r);subst e;exact z2J k t
section
variable {X:Cx}{E:XK}{e a b c:Expr}{es:List Expr}{pos:Pos}{CX:CXT}
theorem z7S{pins:List (Addr×Obj)}{O:L2.St}{H:Hp}{s:Shared}{o:Obj}{d:Addr}{en:Array DictEntry}{ep:Nat}(I:Inv X pins O H s)(hk:X.K.lookup d=some o)(hx:o.ExactDict)(hd:o.data=.dict en ep)(ks:PySem.KeysOf (zK X.prog X.w) en): s.heap.MapOf (zK X.prog X.w) d (λk=>findBy (zK X.prog X.w).is en k):=⟨o,en,ep,I.kIn d o hk,hx,hd,ks,λ_=>rfl⟩
noncomputable def zjv(tb:List (Str×Str))(f:FE):FE:=λZ s=>(f Z s).bind λd s1=>match d with
 | .str k=>match tb.lookup k with | some y=>.ok (.fn y) s1 | none=>.no
 | _=>.no
theorem zjU{x:Str}{p:Pos}{tb:List (Str×Str)}{f:FE}(hT:zfy X.prog X.w X.K X.mg x tb)(hg:Gl X x)(he:RE X E e f)(hs:z7g e)(hdb:(x==("__debug__":Str))=false:=by decide): RE X E (.Subscript (.Name x p) e pos) (zjv tb f):=by
 obtain⟨d,o,en,ep,hm,hsm,hk,hx,hd,ks,h1,h2⟩:=hT;refine zL (zi1 (r:=λv y H Q=>v=.ref d/\∃k g,y=.str k/\findBy (zK X.prog X.w).is en (.inr k)=some (.ref g)/\Q (.ref g) H) ?_ (z2z hg hm (show yr (.ref d) (.ref d) from rfl) hdb) he hs) λO H Q ⟨Y,Z,s,r,en',h⟩=>?_
 ·intro value slice pins s O H v y u u2 Q I rx ry h hs2;obtain⟨rfl,k,g,rfl,hf,q⟩:=h;cases rx;have mp:=z7S I hk hx hd ks;exact _bW (x:=.ref g) mp.typeIs PySem.F.slot_dict_getitem.lookup (wpAny_getItem_of (Q:=λr s'=>r=.ref g/\EP X pins O Q r s') (z5z ry) mp hf ⟨rfl,.ref g,H,I.tok _,rfl,q⟩) hs2
 ·unfold zjv at h;refine⟨Y,Z,s,r,en',(okR.bind (Dn:=Den (gm X)) h).imp λv H1 ⟨Y1,s1,dd,stp,dn,q⟩=>?_⟩;split at q
  ·rename_i k;split at q
   ·rename_i y hy;obtain⟨g,e1,e2⟩:=h1 k y hy;cases qO dn;exact⟨rfl,k,g,rfl,e1,okR.here (b:=V.ref g) q stp.rep (by simp only[Den];exact⟨g,rfl,e2⟩)⟩
   ·exact q.elim
  ·exact q.elim
def z8v(tb:List (Str×Str))(neg:Bool)(f:FE):FE:=λZ s=>(f Z s).bind λd s1=>match d with
 | .str k=>.ok (.bl (xor neg (tb.lookup k).isSome)) s1 | _=>.no
theorem zgb{x:Str}{p:Pos}{tb:List (Str×Str)}{f:FE}(hT:zfy X.prog X.w X.K X.mg x tb)(hg:Gl X x)(he:RE X E e f)(hm':behindInMarks .In (.Name x p)=false:=by rfl)(hdb:(x==("__debug__":Str))=false:=by decide): RE X E (.Compare e [.In] [.Name x p] pos) (z8v tb false f):=by
 obtain⟨d,o,en,ep,hm,hsm,hk,hx,hd,ks,h1,h2⟩:=hT;refine zL (zbw (r:=λy v H Q=>v=.ref d/\∃k,y=.str k/\Q (.bl (findBy (zK X.prog X.w).is en (.inr k)).isSome) H) ?_ he (z2z hg hm (show yr (.ref d) (.ref d) from rfl) hdb) hm') λO H Q ⟨Y,Z,s,r,en',h⟩=>?_
 ·intro pins s O H y v u u2 Q I ry rx h;obtain⟨rfl,k,rfl,q⟩:=h;cases rx;exact wpAny_in_of (z5z ry) hsm (z7S I hk hx hd ks) ⟨.bl _,H,I.tok _,rfl,q⟩
 ·unfold z8v at h;refine⟨Y,Z,s,r,en',(okR.bind (Dn:=Den (gm X)) h).imp λv H1 ⟨Y1,s1,dd,stp,dn,q⟩=>?_⟩;split at q
  ·rename_i k;cases qO dn;have e0:(findBy (zK X.prog X.w).is en (.inr k)).isSome=(tb.lookup k).isSome:=by cases z:tb.lookup k with
    | none=>rw[h2 k z];rfl | some y=>obtain⟨g,e1,_⟩:=h1 k y z;rw[e1];rfl
   exact⟨rfl,k,rfl,okR.here (b:=V.bl _) q stp.rep (by simp[Den,e0])⟩
  ·exact q.elim
noncomputable def z8b(i:Nat)(Ms:List (Str×Mir))(f:FA):FE:=λZ s=>match Z[i]? with
 | some (some (.fn y))=>match Ms.lookup y with
  | some M=>(f Z s).bind λxs s1=>M xs s1 | none=>.no
 | _=>.no
theorem zga (i:Nat) {x:Str} {p:Pos} {n:Nat} {Ms:List (Str×Mir)} {f:FA} (F:∀y M,Ms.lookup y=some M->Has X.prog X.w X.K X.mg X.base CX y n M) (hr:z0e n X.A) (hxx:Passes CX X E) (ha:RA X E (e::es) f) (hN:X.N[i]? = some x:=by rfl) (hv:Vis X.env.scope x:=by first | exact Or.inl rfl | exact Or.inr (Or.inl rfl) | exact Or.inr (Or.inr rfl)) (hd:(x==("__debug__":Str))=false:=by decide) (hcd:(x==("__classdict__":Str))=false:=by decide) (he:starEach (e::es) X.env=(false,eval e X.env)::starEach es X.env:=by rfl) (hpl:(backTo pos (starEach es X.env)).any (·.1)=false:=by rfl):RE X E (.Call (.Name x p) (e::es) [] pos) (z8b i Ms f):=by
 intro pins s O H Q I ⟨Y,Z,st,r,en,h⟩;unfold z8b at h;split at h
 ·rename_i y hy;split at h
  ·rename_i M hM;obtain⟨v,hv1,dv⟩:=en.at_ i (.fn y) hy;simp only[Den]at dv;obtain⟨g,rfl,hmg⟩:=dv;obtain⟨fa,fd,ps,Fk,hb,hk,hm⟩:=F y M hM;have e0:g=fa:=by rw[hmg]at hm;cases hm;rfl
   subst e0;refine _ag (thn (zaM (pos:=p) hN hv hd hcd pins s O H (λv H1=>v=.ref g/\H1=H) I ⟨.ref g,hv1,rfl,rfl⟩) λu s1 ⟨v,H1,I1,r1,e1,e2⟩=>?_);subst e1 e2;cases r1;have hA:=ha pos pins s1 O H1 (λvs H2=>zcu (gm X) M (vs++[]) H2 Q E) I1 (vE (k:=λZ xs s1=>M xs s1) r en h _ λvs H2 Y2 s2 ds r2 en2 dn2 stp2 h3=>by
    rw[_aD];exact⟨Y2,s2,ds,r2,dn2,h3⟩);refine _dh (h₀:=X.base) I1.ok.mod.kin hk (thn hA λus s2 ⟨vs,H2,I2,r2,q⟩=>⟨I2.kIn,?_⟩) he hpl;exact z8K Fk hr hb .nil hxx I2 r2 q
  ·exact h.elim
 ·exact h.elim
@[simp] theorem zl2 (tb:List (Str×Str))(f:FE)(Z:Ev)(s:Sto):zjv tb f Z s=(f Z s).bind λd s1=>match d with
 | .str k=>match tb.lookup k with | some y=>.ok (.fn y) s1 | none=>.no
 | _=>.no:=id rfl
@[simp] theorem zjw (tb:List (Str×Str))(neg:Bool)(f:FE)(Z:Ev)(s:Sto):z8v tb neg f Z s=(f Z s).bind λd s1=>match d with
 | .str k=>.ok (.bl (xor neg (tb.lookup k).isSome)) s1 | _=>.no:=id rfl
@[simp] theorem zda (i:Nat)(Ms:List (Str×Mir))(f:FA)(Z:Ev)(s:Sto):z8b i Ms f Z s=match Z[i]? with
 | some (some (.fn y))=>match Ms.lookup y with
  | some M=>(f Z s).bind λxs s1=>M xs s1 | none=>.no
 | _=>.no:=id rfl
end
theorem xx.cut{mg:Gm}{H H1:Hp}{Y Y1:List Addr}{s1:Sto}(stp:xx mg H Y H1 Y1 s1):xx mg H Y H1 (Y1.take Y.length) (s1.take Y.length):=by
 have fl:∀{ds:List D}{ws:List V},D.flat.flats ds=true->zu mg H1 Y1 ds ws->zu mg H1 (Y1.take Y.length) ds ws:=λf h=>h.flatten (λ_ _ h _ _=>h) f;refine⟨⟨by simp[stp.rep.len],stp.rep.nd.sublist (_cK _ _),λj ys h=>?_,λys h=>stp.rep.flat ys (_aQ h)⟩,?_,stp.keep,λc h1 h2=>stp.new c (_aQ h1) h2,stp.mt⟩
 ·have hj:j<Y.length:=by
   have:=(_c.mp h).1;simp at this;omega
  rw[_aO hj]at h ⊢;obtain⟨c,q1,q2⟩:=stp.rep.cell j ys h;exact⟨c,q1,q2.flatten (λ_ _ h _ _=>h) (stp.rep.flat _ (_C h)) rfl⟩
 ·obtain⟨t,ht⟩:=stp.pre;exact⟨[],by rw[<- ht,List.take_append];simp⟩
noncomputable def zla(n:Nat):R D->R D
 | .ok (.loc l) s1=>match s1[l]? with
  | some xs=>if n<=l then .ok (.lst xs) (s1.take n) else .no | none=>.no
 | .ok _ _=>.no | .ex c s1=>.ex c s1 | .no=>.no
@[simp] theorem zjA {s:Sto}{xs:List D}:zla s.length (.ok (.loc s.length) (s++[xs]))=.ok (.lst xs) s:=by simp[zla]
noncomputable def z8P(n:Nat):R D->R D
 | .ok (.loc l) s1=>if l<n then .ok (.loc l) (s1.take n) else .ok (.loc l) s1 | .ok d s1=>if d.flat=true then .ok d (s1.take n) else .ok d s1 | r=>r
noncomputable def z9x(M:Mir):Mir:=λds s=>z8P s.length (M ds s)
theorem zf9{mg:Gm}{M:Mir}{vs:List V}{H:Hp}{Q:VK}{E:XK}(h:zcu mg (z9x M) vs H Q E):zcu mg M vs H Q E:=by
 obtain⟨Y,s,ds,r,dn,h⟩:=h;refine⟨Y,s,ds,r,dn,?_⟩;unfold z9x z8P at h;split at h
 ·rename_i l s1 e;rw[e];split at h
  ·rename_i hl;intro v H1 Y1 stp dv;rw[<- r.len]at h;refine h v H1 _ stp.cut ?_;simp only[Den]at dv ⊢;obtain⟨a,rfl,e1,ka⟩:=dv;exact⟨a,rfl,by rw[_aO (by rw[r.len];exact hl)];exact e1,ka⟩
  ·exact h
 ·rename_i d s1 hn e;rw[e];split at h
  ·rename_i hf;intro v H1 Y1 stp dv;rw[<- r.len]at h;exact h v H1 _ stp.cut (dv.flatten (λ_ _ h _ _=>h) hf)
  ·exact h
 ·exact h
section
variable {P:Program}{w:World}{K:W.Frag}{mg:Str->Option Value}{base:Heap}
theorem Has.tidy{CX:CXT}{x:Str}{n:Nat}{M:Mir}(h:Has P w K mg base CX x n M):Has P w K mg base CX x n (z9x M):=by
 obtain⟨f,fd,ps,F,r⟩:=h;exact⟨f,fd,ps,F.imp λvs H Q E h=>zf9 h,r⟩
end
@[simp] theorem z78 (M:Mir)(ds:List D)(s:Sto):z9x M ds s=z8P s.length (M ds s):=id rfl
@[simp] theorem z0s {d:D}{n:Nat}{s1:Sto}(h:d.flat=true):z8P n (.ok d s1)=.ok d (s1.take n):=by cases d<;>first | (simp[D.flat]at h;done) | simp_all[z8P]
noncomputable def zjo:D->D->Sto->R D
 | x,.int k,s=>match listOf s x with
  | some xs=>if xs.length*k.toNat<=cap/\-(2 ^ 62)<=k/\k<2 ^ 62 then .ok (.lst (List.replicate k.toNat xs).flatten) s else .no | none=>.no
 | _,_,_=>.no
theorem zu.flat_rep{mg:Gm}{H:Hp}{Y:List Addr}{xs:List D}{vs:List V}(h:zu mg H Y xs vs):∀k:Nat,zu mg H Y (List.replicate k xs).flatten (List.replicate k vs).flatten
 | 0=>by simpa using zu.nil | k+1=>by
  rw[_av,_av,_aS,_aS];exact h.append (h.flat_rep k)
section
variable {X:Cx}{E:XK}
theorem zkC:∃r,OpR X (binaryOp .Mult) r/\OpF X E r zjo:=by
 refine⟨_,zhz.freeze,?_⟩;intro H Y s d1 d2 v1 v2 Q r h1 h2 h;unfold zjo at h;split at h
 ·rename_i k;cases zT h2;split at h
  ·rename_i xs hx;split at h
   ·rename_i hl;obtain⟨l,vs,e,q1,q2⟩:=zG r hx h1;exact⟨l,k,vs,e,rfl,q1,by omega,by omega,by rw[q2.length];exact ui hl.1,qD r h (q2.flat_rep _)⟩
   ·exact h.elim
  ·exact h.elim
 ·exact h.elim
end
section
variable {X:Cx}{E:XK}{e a b c:Expr}{es:List Expr}{pos:Pos}{CX:CXT}
theorem zfq{x:Str}{p:Pos}{n:Nat}{M:Mir}(F:Has X.prog X.w X.K X.mg X.base CX x n M)(hr:z0e n X.A)(hx:Passes CX X E)(hg:Gl X x)(hdb:(x==("__debug__":Str))=false:=by decide):RE X E (.Call (.Name x p) [] [] pos) (zi M zk):=by
 obtain⟨fa,fd,ps,F,hb,hk,hm⟩:=F;refine zL (zcb F hr hg hm hk hb .nil hx hdb) λO H Q ⟨Y,Z,s,r,en,h⟩=>?_;exact⟨Y,s,[],r,zu.nil,h⟩
end
section
variable {P:Program}{w:World}{K:W.Frag}{mg:Str->Option Value}{base:Heap}{CX:CXT}{n:Nat}
noncomputable def zc1:List DictEntry->List (Str×Value)
 | []=>[] | e::es=>match e.key with
  | .str k _=>(k,e.val)::zc1 es | _=>zc1 es
theorem z0o {P:Program} {w:World} {k:Str}:∀{es:List DictEntry},findBy (zK P w).is es.toArray (.inr k)=(zc1 es).lookup k
 | []=>by simp[findBy,zc1] | e::es=>by
  have ih:=z0o (P:=P) (w:=w) (k:=k) (es:=es);simp only[findBy,List.find?_toArray]at ih ⊢;rw[_aY];cases hk:e.key with
  | str y t=>
   simp only[zc1,hk,_Q];by_cases z:k=y
   ·subst z;simp[z21]
   ·have:(zK P w).is (.inr k) (.str y t)=false:=by
     rw[z3w];cases q:z4Q (.inr k) (.str y t) with
     | false=>rfl | true=>
      rcases yp q with⟨i,u,h1,h2⟩ | ⟨x,u,h1,h2⟩;·cases h2
      ·cases h1;cases h2;exact absurd rfl z
    rw[this,show (k==y)=false from by simpa using z];exact ih | _=>
   have:(zK P w).is (.inr k) e.key=false:=by
    rw[z3w];cases q:z4Q (.inr k) e.key with
    | false=>rfl | true=>
     rcases yp q with⟨i,u,h1,h2⟩ | ⟨x,u,h1,h2⟩;·cases h1
     ·rw[hk]at h2;cases h2
   rw[hk]at this;simp only[zc1,hk,this];exact ih
theorem z7U:∀y M,([]:List (Str×Mir)).lookup y=some M->Has P w K mg base CX y n M:=λy M h=>by simp at h
theorem uU{x:Str}{M0:Mir}{Ms:List (Str×Mir)}(h:Has P w K mg base CX x n M0)(hs:∀y M,Ms.lookup y=some M->Has P w K mg base CX y n M):∀y M,((x,M0)::Ms).lookup y=some M->Has P w K mg base CX y n M:=λy M e=>by
 rw[_Q]at e;split at e
 ·rename_i hb;cases e;have:y=x:=by simpa using hb
  subst this;exact h
 ·exact hs y M e
end
def Sub(K:W.Frag)(h:Heap):Prop:=∀p∈K,h.get? p.1=some p.2
theorem Sub.in_{K:W.Frag}{h:Heap}(s:Sub K h):K.In h:=λa o e=>by induction K with
 | nil=>simp at e | cons p K ih=>
  obtain⟨b,u⟩:=p;rw[_Q]at e;split at e
  ·rename_i hb;cases e;have:a=b:=by simpa using hb
   subst this;exact s (a,o) (by simp)
  ·exact ih (λq hq=>s q (by simp[hq])) e
theorem z4w(h:Heap)(a:Addr):Sub (z71 h a) h:=λp hp=>by
 unfold z71 at hp;split at hp
 ·rename_i o e;simp at hp;subst hp;exact e
 ·simp at hp
theorem Sub.app{K L:W.Frag}{h:Heap}(a:Sub K h)(b:Sub L h):Sub (K++L) h:=λp hp=>(_H.mp hp).elim (a p) (b p)
theorem zeR(h:Heap)(ns:List Str):Sub (gat h ns) h:=by
 refine (z4w h _).app λp hp=>?_;obtain⟨x,_,hx⟩:=_c9.mp hp;unfold zld at hx;split at hx
 ·rcases _H.mp hx with hx | hx;·exact z4w h _ p hx
  ·split at hx
   ·split at hx;·exact z4w h _ p hx
    ·simp at hx
   ·exact z4w h _ p hx
   ·simp at hx
 ·simp at hx
def zl4(K:W.Frag)(x:Str)(st:Stmt):Prop:=∃f fd,W.nsIn K mainGlobals x=some (some (.ref f))/\Fun K x x st f fd
theorem dA(s:Stmt):dArgs s=z0r s:=by cases s<;>rfl
theorem dB(s:Stmt):zhX s=wW s:=by cases s<;>rfl
theorem dS(s:Stmt):zea s=zh s:=by cases s<;>rfl
theorem zfB{K:W.Frag}{x:Str}{st:Stmt}(h:zgc K x=zk4 x st):zl4 K x st:=by
 unfold zgc zk4 at h;rw[dA,dB,dS]at h;split at h
 ·rename_i f hf;split at h
  ·rename_i oc od fd sl hl;simp only[_D,_a3]at h;obtain⟨h1,h2,h3,h4,h5,h6,h7,h8,h9,h10,h11⟩:=h;obtain⟨a1,a2,a3,a4,a5,a6,a7,a8,a9,a10,a11,a12,a13,a14,a15⟩:=fd;simp only at h1 h2 h3 h4 h5 h6 h7 h8 h9 h10;subst h1 h3 h4 h5 h6 h7 h8 h9;subst h2;exact⟨f,_,hf,ziF hl h10 h11⟩
  ·cases h
 ·cases h
theorem zck{K:W.Frag}{x:Str}(h:zfA K x=true):W.nsIn K mainGlobals x=some none:=by
 unfold zfA at h;split at h;·rename_i e;exact e
 ·cases h
theorem zdI{K:W.Frag}{x:Str}{i:Int}(h:zgJ K x=some i):∃t,W.nsIn K mainGlobals x=some (some (.int i t)):=by
 unfold zgJ at h;split at h;·rename_i j t e;cases h;exact⟨t,e⟩
 ·cases h
theorem z7V{P:Program}{w:World}{K:W.Frag}{h:Heap}{mg:Str->Option Value}(X:K.In h)(G:h.Ns mainGlobals mg):∀{es:List DictEntry}{tb:List (Str×Str)},z8O K es (tb.map (·.2))=tb.map (λp=>(PyData.keyHash w.params p.1,some p.1,true))-> PySem.KeysOf (zK P w) es.toArray/\(∀k y,tb.lookup k=some y->∃f,(zc1 es).lookup k=some (.ref f)/\mg y=some (.ref f))/\∀k,tb.lookup k=none->(zc1 es).lookup k=none
 | [],[],_=>⟨λe he=>by simp at he,λk y h=>by simp at h,λk _=>by simp[zc1]⟩ | [],_::_,h=>by simp[z8O]at h | _::_,[],h=>by simp[z8O]at h | e::es,(k0,y0)::tb,h=>by
  simp only[_v,z8O,_aK,_a3]at h;obtain⟨⟨h1,h2,h3⟩,h4⟩:=h;obtain⟨i1,i2,i3⟩:=z7V (P:=P) X G h4;obtain⟨hh,kk,vv⟩:=e;simp only at h1 h2 h3;cases kk with
  | str ks t=>
   simp only[zbI,_D]at h2;subst h2;have hv:∃f,vv=.ref f/\W.nsIn K mainGlobals y0=some (some (.ref f)):=by
    unfold sameRef at h3;split at h3
    ·rename_i f g e1;have:f=g:=by simpa using h3
     subst this;exact⟨f,rfl,e1⟩
    ·cases h3
   obtain⟨f,rfl,e1⟩:=hv;refine⟨λe he=>?_,λk y hy=>?_,λk hy=>?_⟩
   ·simp only[_da,_q]at he;rcases he with rfl | he;·exact⟨.inr ks,z2J ks t,h1⟩
    ·exact i1 e (by simpa using he)
   ·simp only[zc1,_Q]at hy ⊢;by_cases z:k=ks
    ·subst z;simp at hy ⊢;subst hy;exact W.mg_of X G e1
    ·rw[show (k==ks)=false from by simpa using z]at hy ⊢;exact i2 k y hy
   ·simp only[zc1,_Q]at hy ⊢;by_cases z:k=ks;·subst z;simp at hy
    ·rw[show (k==ks)=false from by simpa using z]at hy ⊢;exact i3 k hy | _=>simp[zbI]at h2
theorem zf1{P:Program}{w:World}{K:W.Frag}{h:Heap}{mg:Str->Option Value}{x:Str}{tb:List (Str×Str)}(X:K.In h)(G:h.Ns mainGlobals mg)(e:zg2 K x (tb.map (·.2))=zjS w tb):zfy P w K mg x tb:=by
 unfold zg2 zjS at e;split at e
 ·rename_i a ha;split at e
  ·rename_i c d es ep sl hl;simp only[_D,_a3]at e;obtain⟨e1,e2,e3,e4,e5⟩:=e;obtain⟨i1,i2,i3⟩:=z7V (P:=P) X G e5;have hc:c=.type "dict":=by
    unfold z5X at e1;split at e1
    ·rename_i n;have:n="dict":=by simpa using e1
     rw[this]
    ·cases e1
   have hd:d=none:=by simpa using e2
   have hs:sl=#[]:=by
    have:sl.size=0:=by simpa using e3
    exact Array.eq_empty_of_size_eq_zero this
   have ea:es.toList.toArray=es:=by simp
   rw[ea]at i1;refine⟨a,_,es,ep,W.mg_of X G ha,e4,hl,⟨hc,hd,hs⟩,rfl,i1,λk y hy=>?_,λk hy=>?_⟩;·rw[<- ea,z0o];exact i2 k y hy
   ·rw[<- ea,z0o];exact i3 k hy
  ·cases e
 ·cases e
def saysS(q:Ask)(w:World)(h:Heap):Prop:=∃K:W.Frag,K.In h/\z9P q K=valS q w
theorem zeO(q:Ask)(w:World)(s:Shared)(e:obsS q s=valS q w):saysS q w s.heap:=⟨_,(zeR _ _).in_,e⟩
theorem z9m(q:Ask)(w:World)(h h':Heap)(x:saysS q w h)(k:∀b o,h.get? b=some o->h'.get? b=some o):saysS q w h':=let ⟨K,a,b⟩:=x;⟨K,a.keeps k,b⟩
theorem z41{α β:Type}{f g:α->β}:∀{l:List α},l.map f=l.map g->∀x∈l,f x=g x:=λh x hx=>List.map_inj_left.mp h x hx
theorem zkS{q:Ask}{w:World}{K:W.Frag}(e:z9P q K=valS q w)(x:Str)(st:Stmt)(hx:(x,st)∈q.fs):zl4 K x st:=zfB (z41 (_a0 Prod.fst e) (x,st) hx)
theorem zk6{q:Ask}{w:World}{K:W.Frag}(e:z9P q K=valS q w)(x:Str)(hx:x∈q.bs):W.nsIn K mainGlobals x=some none:=zck (z41 (_a0 (λz=>z.2.1) e) x hx)
theorem zkZ{q:Ask}{w:World}{K:W.Frag}(e:z9P q K=valS q w)(x:Str)(i:Int)(hx:(x,i)∈q.cs):∃t,W.nsIn K mainGlobals x=some (some (.int i t)):=zdI (z41 (_a0 (λz=>z.2.2.1) e) (x,i) hx)
theorem zjQ{P:Program}{q:Ask}{w:World}{K:W.Frag}{h:Heap}{mg:Str->Option Value}(X:K.In h)(G:h.Ns mainGlobals mg)(e:z9P q K=valS q w)(x:Str)(tb:List (Str×Str))(hx:(x,tb)∈q.ts):zfy P w K mg x tb:=zf1 X G (z41 (_a0 (λz=>z.2.2.2.1) e) (x,tb) hx)
theorem zbt{p q:Program}{loose:List Str}{Xt:Shared->Bool}{α:Type}{Yf:Shared->α}{Ya:World->α}{N:Nat}{g0:Bool}(row:String) (bo:∀w:World,(W.fencedOpening treeTable p w N).map (λs=>(s.heap,s.gens,s.drawn,s.toks))=some (W.boot_heap w.params,Array.mk [],W.boot_drawn,W.boot_toks)) (hf:∀(w:World)(os:OsState),(W.topFrom treeTable p (w.withFollow row false) N ⟨W.boot_heap w.params,Array.mk [],W.boot_drawn,W.boot_toks,os⟩).map (λs=>(W.openSeen q loose (importedModules p.main.body) Xt g0 s,Yf s))=some (W.openGood q loose,Ya (w.withFollow row false))) (ht:∀(w:World)(os:OsState),(W.topFrom treeTable p (w.withFollow row true) N ⟨W.boot_heap w.params,Array.mk [],W.boot_drawn,W.boot_toks,os⟩).map (λs=>(W.openSeen q loose (importedModules p.main.body) Xt g0 s,Yf s))=some (W.openGood q loose,Ya (w.withFollow row true))):W.LeftO p q loose Xt Yf Ya N g0:= W.LeftO.of_split row λw=>by
  obtain⟨⟨h,gs,d,k,os⟩,e,e'⟩:=_w.mp (bo w);obtain⟨rfl,rfl,rfl,rfl⟩:h=W.boot_heap w.params/\gs=Array.mk []/\d=W.boot_drawn/\k=W.boot_toks:=by simpa only [_a3] using e'
  rw[e,_as,hf w os,ht w os]
theorem z5W{tb:String->Option Builtin}{p:Program}{w:World}{n₀:Nat}{ann:Option Value}:∀{n:Nat}{s s':W.SharedT}{t:Thread},z2L tb p w n₀ ann n s t=some s'->W.topRun tb p w n₀ ann n s.abs t=some s'.abs
 | 0,_,_,_,h=>by cases h | n+1,s,s',t,h=>by
  unfold z2L at h;unfold W.topRun;cases he:W.through t with
  | true=>rw[he]at h;cases h;rfl | false=>
   rw[he]at h;cases hk:W.stepOk n₀ ann t with
   | false=>rw[hk]at h;cases h | true=>
    rw[hk]at h;cases hs:W.stepT (denote tb) p w s t with
    | none=>rw[hs]at h;cases h | some r=>obtain⟨s₂,t₂⟩:=r;rw[hs]at h;rw[W.stepT_spec hs];exact z5W h
theorem z3y{p:Program}{w:World}{N:Nat}{h:Heap}{d:Drawn}{k:Nat}{os:OsState}{t0:W.BT}{m₀:Nat}{ann:Option Value}(ha:W.absHeap t0 m₀ h.life=h) (sz:(h.isNs mainGlobals&&(Array.mk []:Array GenState).size==0,h.objs.size,h.nsMap mainGlobals "__annotations__")=(true,m₀,ann)){α:Type}{f:Shared->α}{v:α} (hr:(z2L treeTable p w m₀ ann N ⟨t0,m₀,h.life,Array.mk [],d,k,os⟩ (W.topStub p)).map (λsT=>(W.staticsOk (importedModules p.main.body) h sT.abs.heap&&W.namesBound p sT.abs.heap&&W.gensDone sT.abs&&W.laidKept h sT.abs.heap,f sT.abs))=some (true,v)): (W.topFrom treeTable p w N ⟨h,Array.mk [],d,k,os⟩).map f=some v:=by
 obtain⟨sT,e1,e2⟩:=_w.mp hr;obtain⟨e3,e4⟩:=Prod.mk.inj e2;obtain⟨z1,z2,z3⟩:_/\_/\_:=by simpa only [_a3] using sz
 have r:=z5W e1;have a0:(⟨t0,m₀,h.life,Array.mk [],d,k,os⟩:W.SharedT).abs=⟨h,Array.mk [],d,k,os⟩:=by
  show (⟨W.absHeap t0 m₀ h.life,Array.mk [],d,k,os⟩:Shared)=_;rw[ha]
 rw[a0]at r;have t:W.topFrom treeTable p w N ⟨h,Array.mk [],d,k,os⟩=some sT.abs:=by
  unfold W.topFrom;dsimp only;rw[z1,z2,z3];dsimp only;rw[r];show (match (W.staticsOk (importedModules p.main.body) h sT.abs.heap&&W.namesBound p sT.abs.heap&&W.gensDone sT.abs&&W.laidKept h sT.abs.heap) with | true=>some sT.abs | false=>none)=_;rw[e3]
 rw[t,_as,e4]
theorem z6I{α β γ δ:Type}{r:Option α}{f:α->β}{g:α->γ}{k:α->δ}{x:β}{y:γ}{z:δ}(h1:r.map (λs=>(f s,k s))=some (x,z))(h2:r.map g=some y):r.map (λs=>(f s,(g s,k s)))=some (x,(y,z)):=by
 obtain⟨s,e1,e2⟩:=_w.mp h1;obtain⟨s',e3,e4⟩:=_w.mp h2;rw[e1]at e3;cases e3;obtain⟨e5,e6⟩:=Prod.mk.inj e2;rw[e1,_as,e4,e5,e6]
theorem walkY{l:W.OpenLaw}{n k:Nat}{q:Program}{loose:List Str}{XP:(Str->Option Value)->Heap->Prop}{YP:World->Heap->Prop}{d:DefRec}{x:Str} (hn:l.most=some n)(hn2:n<=sizeLine)(hn3:n<=63)(hdf:d.params.defaults=[])(hr:z0e k callerA) (F:∀(w:World)(mg:Str->Option Value)(fa:Addr)(h:Heap),YP w h->h.Ns mainGlobals mg->mg d.name=some (.ref fa)->XP mg h-> ∃K:W.Frag,K.In h/\∃fd:FuncData,(∀(s:Shared)(u:Value),BindsTo s fd ⟨[u],[]⟩ [(x,u)])/\ ∀base:Heap,K.In base->base.Ns mainGlobals mg->z4y l.prog w K mg base CX0 k fa fd [x] (zfW K)): W.WalkO q loose XP YP l.row.toRowW d [] (λf vs=>PySem.call f vs):=by
 refine Att.z76 hn hdf λw s₀ s₁ mg mb fa o pm cd doc a vs ns G Yy ho hd hcd hmg hobj hints hlen hg=>?_;obtain⟨K,KX,fd,hb,hF⟩:=F w mg fa _ Yy G.T.g hmg G.X;exact zd3 KX G.T.g G.T.b G.T.builtins G.T.nolimit hg hobj hints (_S hlen hn2) hr hF hb (λH hO hS=>⟨a,ns,rfl,hO,hS,_S hlen hn3,λ_=>rfl⟩) λH e s' z=>z
end Dd
namespace HT
end HT
namespace L2
end L2
namespace Dd
open L2
section
variable {X:Cx}{E:XK}{e:Expr}{pos p2 p3 p4:Pos}
theorem zu.rev{mg:Gm}{H:Hp}{Y:List Addr}:∀{xs:List D}{vs:List V},zu mg H Y xs vs->zu mg H Y xs.reverse vs.reverse
 | [],vs,h=>by simp only[zu]at h;subst h;exact zu.nil | d::ds,vs,h=>by
  simp only[zu]at h;obtain⟨v,r,rfl,h1,h2⟩:=h;rw[_ax,_ax];exact (zu.rev h2).append (.one h1)
end
structure Fly(P:Program)(w:World)(outer:List Env)(H:Hp)(s:Shared)(C ea:Addr)(H':Hp)(s':Shared):Prop where
 os:s'.os=s.os
 bare:AllBare s'.gens
 un:Un (frs outer) [] H H' s.heap s'.heap
 hok:HOk P w H' s'.heap
 fly:∃B a0,Heap.FlyingW B outer ea (.ref C) a0 s'.heap/\∀b o,s'.heap.get? b=some o->(H' b≠none\/((∃o',s.heap.get? b=some o')/\b∉frs outer))->B.get? b=some o
def CX1(P:Program)(w:World):CXT:=λouter H s E e s'=>∃C ea H',e=.ref ea/\Fly P w outer H s C ea H' s'/\E (.ref C) none H'
theorem z8x{env:Env}{l:List Env}{L:Addr}(h:env.frame=some L):frs (env::l)=L::frs l:=by unfold frs;rw[_bD,h]
theorem HOk.cov{P:Program}{w:World}{H:Hp}{h h' B:Heap}(x:HOk P w H h)(c:∀b o,h.get? b=some o->H b≠none->B.get? b=some o)(k:B.StaysIn h'):HOk P w H h':=λa o e=> (x a o e).stay (λb u hb q=>by
  refine k b u (c b u q ?_);rcases hb with rfl | hb;·rw[e];simp
  ·rw[hb];simp) (λ_ q=>q) λ_ _ q=>q
theorem zcM{P:Program}{w:World}{H:Hp}{h:Heap}{a:Addr}{o:HO}(x:yM P w H h a o):∃ob,h.get? a=some ob:=by cases o with
 | lst xs=>obtain⟨_,_,_,_,e⟩:=x;exact⟨_,e⟩ | tup xs=>obtain⟨_,_,_,ob,e,_⟩:=x;exact⟨_,e⟩ | dK kvs=>obtain⟨_,_,_,_,o,_,_,e,_⟩:=x;exact⟨_,e⟩ | dT kvs=>obtain⟨_,_,_,_,o,_,_,e,_⟩:=x;exact⟨_,e⟩ | set S n=>obtain⟨o,_,_,_,e,_⟩:=x;exact⟨_,e⟩ | ins C dx fs=>obtain⟨_,_,_,e,_⟩:=x;exact⟨_,e⟩ | own y=>exact x | xd fs=>obtain⟨_,⟨_,_,_,e,_⟩,_⟩:=x;exact⟨_,e⟩ | rng lo hi=>obtain⟨_,_,_,e⟩:=x;exact⟨_,e⟩ | frz ob u=>obtain⟨e,_⟩:=x;exact⟨_,e⟩ | tbl ps=>exact⟨_,(show h.get? a=some _ from x)⟩ | met f y=>exact⟨_,(show h.get? a=some _ from x)⟩ | ext φ=>obtain⟨_,e,_⟩:=x;exact e
section
variable {X:Cx}{E:XK}{pins:List (Addr×Obj)}{O:L2.St}{H:Hp}{s:Shared}
theorem Inv.left{outer:List Env}{h' B:Heap}{C ea:Addr}{a0:Value}(I:Inv X pins O H s)(hex:X.ex=[])(ho:X.outer=outer)(fl:Heap.FlyingW B outer ea (.ref C) a0 h')(sm:s.heap.UpToSlots h') (c:∀b o,s.heap.get? b=some o->(H b≠none\/((∃o',X.s₀.heap.get? b=some o')/\b∉frs outer))->B.get? b=some o){g:Array GenState}{d:Drawn}{t:Nat}(hg:AllBare g): Fly X.prog X.w outer X.H₀ X.s₀ C ea H ⟨h',g,d,t,s.os⟩:=by
 subst ho;have k:=fl.1;refine⟨I.os,hg,⟨λb o e n nf ne=>?_,λb o e n hf ne=>?_,λb o e n ne=>?_,λb o e ne=>?_,I.base.tups,I.base.frzs,I.base.tbls⟩,HOk.cov I.hok (λb o e n=>c b o e (.inl n)) k,B,a0,fl,λb o e q=>?_⟩
 ·have e1:=I.base.keep b o e n nf (by rw[hex];exact ne);exact k b o (c b o e1 (.inr ⟨⟨o,e⟩,nf⟩))
 ·obtain⟨sl,e1⟩:=I.base.slot b o e n hf (by rw[hex];exact ne);obtain⟨_,o2,e2,hnf⟩:=I.funs.mem hf;rw[e1]at e2;cases e2;obtain⟨sl2,e3⟩:=sm b _ e1 hnf;exact⟨sl2,e3⟩
 ·exact I.base.free b o e n (by rw[hex];exact ne)
 ·by_cases hf:b∈frs X.outer
  ·obtain⟨_,o2,e2,hnf⟩:=I.funs.mem hf;obtain⟨sl2,e3⟩:=sm b _ e2 hnf;exact⟨_,e3⟩
  ·obtain⟨o1,e1⟩:=I.base.there b o e (by rw[hex];exact ne);exact⟨o1,k b o1 (c b o1 e1 (.inr ⟨⟨o,e⟩,hf⟩))⟩
 ·have back:∀o1,s.heap.get? b=some o1->B.get? b=some o:=λo1 e1=>by
   have e2:=c b o1 e1 (q.imp id λz=>z);have e3:h'.get? b=some o1:=k b o1 e2;have:h'.get? b=some o:=e;rw[e3]at this;cases this;exact e2
  rcases q with q | ⟨⟨o',e'⟩,nf⟩;·cases z:H b with
   | none=>exact absurd z q | some u=>
    obtain⟨o1,e1⟩:∃o1,s.heap.get? b=some o1:=by exact zcM (I.hok b u z)
    exact back o1 e1
  ·obtain⟨o1,e1⟩:=I.base.there b o' e' (by rw[hex];simp);exact back o1 e1
end
section
variable {P:Program}{w:World}{K:W.Frag}{mg:Str->Option Value}{base:Heap}{N:List Str}{qual:Str}{scope:Scope}{f:Addr}{cd:Value}{A:Around}{outer:List Env}{s:Shared}{H:Hp}{E:XK}
theorem uf:(envOfC qual scope s.heap.objs.size f cd).frame=some s.heap.objs.size:=rfl
theorem kz:Passes (CX1 P w) (z2i (CX1 P w) P w K mg base N qual scope f cd A outer s H E) E:=by
 intro pins O H1 s1 e s' I h;obtain⟨C,ea,H',he,fl,hE⟩:=h;subst he;obtain⟨h2,g2,d2,t2,os2⟩:=s';have eos:os2=s1.os:=fl.os;subst eos;have I':=I.call (h':=h2) (g':=g2) (d':=d2) (t':=t2) (ch:=[]) fl.un fl.hok fl.bare (λb z=>absurd z (by simp));obtain⟨B,a0,fw,cov⟩:=fl.fly;refine wpAny_leaves_onW (base:=B) (outer:=outer) I.ok.frames uf fw λh' fw' sm=>?_;refine⟨C,ea,H',rfl,Inv.left I' rfl rfl fw' sm (λb o e q=>cov b o e (q.imp id λz=>?_)) I'.bare,hE⟩;obtain⟨⟨o',e'⟩,nf⟩:=z;obtain⟨o1,e1⟩:=I.base.there b o' e' (by show b∉([]:List Addr);simp);refine⟨⟨o1,e1⟩,λz=>?_⟩;rw[show (z2i (CX1 P w) P w K mg base N qual scope f cd A outer s H E).stack=envOfC qual scope s.heap.objs.size f cd::outer from rfl,z8x uf]at z;rcases _q.mp z with z | z
 ·have:=_m e';rw[z]at this;exact absurd this (_al _)
 ·exact nf z
theorem zij {pins:List (Addr×Obj)} {O:L2.St} {H1:Hp} {s1:Shared} {h':Heap} {e C:Addr} {args:List Value} (I:Inv (z2i (CX1 P w) P w K mg base N qual scope f cd A outer s H E) pins O H1 s1) (hx:Heap.MadeExcOf s1.heap h' e (.ref C) args) (hE:E (.ref C) none H1): (z2i (CX1 P w) P w K mg base N qual scope f cd A outer s H E).xe (.ref e) {s1 with heap:=h'}:=by
 have hin:∀env∈(envOfC qual scope s.heap.objs.size f cd::outer),∀b,env.frame=some b->b∈frs (envOfC qual scope s.heap.objs.size f cd::outer):=λenv he b hb=>_bL.mpr ⟨env,he,hb⟩;refine wpAny_leaves_madeW (base:=W.hideAll s1.heap (frs (envOfC qual scope s.heap.objs.size f cd::outer))) (h:=s1.heap) (outer:=outer) I.ok.frames uf (λb o q=>W.of_hideAll _ q) (W.funFrames_hide I.stack hin) hx λh'' t fw tup bt sm=>?_;refine⟨C,e,H1,rfl,Inv.left I rfl rfl fw ((Heap.UpToSlots.of_keeps hx.keeps).trans sm) (λb o eb q=>W.hideAll_get _ eb λz=>?_) I.bare,hE⟩;rcases q with q | ⟨⟨o',e'⟩,nf⟩;·exact q (I.stkFree b z)
 ·rw[z8x uf]at z;rcases _q.mp z with z | z
  ·have:=_m e';rw[show (z2i (CX1 P w) P w K mg base N qual scope f cd A outer s H E).s₀=s from rfl]at this;rw[z]at this;exact absurd this (_al _)
  ·exact nf z
end
def zap (X:Cx) (E:XK):Prop:=∀(pins:List (Addr×Obj)) (O:L2.St) (H1:Hp) (s1:Shared) (h':Heap) (e C:Addr) (args:List Value),Inv X pins O H1 s1->Heap.MadeExcOf s1.heap h' e (.ref C) args->E (.ref C) none H1->X.xe (.ref e) {s1 with heap:=h'}
def z7J(K:W.Frag)(mg:Str->Option Value)(x:Str):Prop:=∃C,mg x=some (.ref C)/\W.excIn K C bmV "ValueError.__new__"=true
theorem zbJ{K:W.Frag}{h₀:Heap}{C:Addr}{bmB:List Value}{newId:String}(X:K.In h₀)(q:W.excIn K C bmB newId=true): ∃bm N nm q bs hdct sn sub ab col dd k0 k1 k2 k3 k5 mN,h₀.get? C=some (excClassObj nm q C N bs bm hdct sn sub ab col dd k0 k1 k2 k3 k5 newId)/\h₀.Ns N mN/\mN "__init__"=none/\OwnTail h₀ bmB bm:=by
 unfold W.excIn at q;split at q
 ·rename_i dd cd sl ho;split at q
  ·rename_i C' bm k0 k1 k2 k3 n k5 hm hs;simp only[_z,_aw,Bool.not_eq_true']at q;obtain⟨⟨⟨⟨⟨rfl,rfl⟩,hdel⟩,ht⟩,hok⟩,hni⟩:=q;obtain⟨nm,bs,mro,ns,qn,hd,sn,sub,ab,col,del⟩:=cd;dsimp only at hm hdel hok hni;subst hm hdel;have hsl:sl=#[k0,k1,k2,k3,some (.builtin n),k5]:=by
    obtain⟨l⟩:=sl;simp only at hs;rw[hs]
   subst hsl;exact⟨bm,ns,nm,qn,bs,hd,sn,sub,ab,col,dd,k0,k1,k2,k3,k5,_,X _ _ ho,.of_isNs (W.isNs_of_in X hok),W.nsMap_none_of_in X hok hni,W.tail_of_in X ht⟩
  ·cases q
 ·cases q
section
variable {X:Cx}{E:XK}{pos:Pos}
def z0X(c:Str):FS:=λ_ s=>.ex c s
theorem z0g {x:Str} {np cpos p:Pos} {m:Str} {j:Nat} (hk:z7J X.K X.mg x) (hro:zap X E) (hc:X.calm=true) (hg:Gl X x) (hd:(x==("__debug__":Str))=false:=by decide): RS X E (.Raise (some (.Call (.Name x np) [.Constant (.str m) j p] [] cpos)) none pos) (z0X x):=by
 intro pins s O H D I h;obtain⟨Y,Z,st,r,en,h⟩:=h;obtain⟨C,hm,hq⟩:=hk;have hE:E (.ref C) none H:=h H Y C (xx.refl r) hm;obtain⟨tl,Nn,nm,q,bs,hdct,sn,sub,ab,col,dd,k0,k1,k2,k3,k5,mN,hC,hN,hni,T⟩:=zbJ I.mod.kin hq;refine wpAny_Raise_call_subT (C:=C) (nm:=nm) (q:=q) (N:=Nn) (bs:=bs) (bm:=tl) (hdct:=hdct) (sn:=sn) (sub:=sub) (ab:=ab) (col:=col) (dd:=dd) (k0:=k0) (k1:=k1) (k2:=k2) (k3:=k3) (k5:=k5) _bw (mN:=mN) (T.hasType _bw.hasBase) (I.ok.hd hc) rfl hni (z0D I hg hm ⟨rfl,?_⟩ hd);refine _bu (thn (wS (X:=X) (zei (X:=X)) (kY (X:=X)) rfl cpos pins s O H (λvs H1=>vs=[.str m]/\H1=H) I ⟨rfl,rfl⟩) λus s2 h2=>?_);obtain⟨vs,H1,I1,r1,e1,e2⟩:=h2;subst e1 e2;obtain⟨u,rfl,ru⟩:=r1.one;exact⟨rfl,by show (1:Nat)<=sizeLine;decide,I1.bk _ _ hC,hN.keeps I1.bk,T.keeps I1.bk,λh' e mk=>hro pins O _ s2 h' e C [u] I1 mk hE⟩
end
noncomputable def jB(N:List Str)(n:Nat)(fs:FS):Mir:=λds s=>if ds.length=n then (match fs (zt N ds) s with
 | .ok (.rt d) s'=>.ok d s' | .ok (.nx _) s'=>.ok .non s' | .ex c s'=>.ex c s' | _=>.no) else .no
section
variable {P:Program}{w:World}{K:W.Frag}{mg:Str->Option Value}{base:Heap}
theorem z99{X:Cx}{E:XK}:Passes CX0 X E:=λ_ _ _ _ _ _ _ h=>h.elim
theorem wP{x qual:Str}{st:Stmt}{f:Addr}{fd:FuncData}{N ps:List Str}{k n:Nat}{fs:FS}(F:Fun K x qual st f fd)(hm:mg x=some (.ref f))(hb:Binds K fd ps [])(S:zA N ps (zh st))(hn:ps.length=n) (body:∀(cdv:Value)(A:Around)(outer:List Env)(s:Shared)(H:Hp)(E:XK),z0e k (A.deeper (envOfC qual (zh st) s.heap.objs.size f cdv))->(z2i (CX1 P w) P w K mg base N qual (zh st) f cdv A outer s H E).calm=true-> RSs (z2i (CX1 P w) P w K mg base N qual (zh st) f cdv A outer s H E) E (wW st) fs):Has P w K mg base (CX1 P w) x (k+1) (jB N n fs):=by
 subst hn;obtain⟨oc,od,kV,doc,pm,an,cdv,ct,osl,rfl,lk,hcd⟩:=F.ex;refine⟨f,_,ps,zh1 lk hcd S (λvs H Q E h=>?_) (λA outer s H vs Q E hr h=>?_),hb,F.kp,hm⟩
 ·obtain⟨Y,s,ds,_,dn,h⟩:=h;unfold jB at h;split at h;·rename_i e;rw[dn.length];exact e
  ·exact h.elim
 ·obtain⟨Y,st0,ds,r,dn,h⟩:=h;refine⟨_,body cdv A outer s H E hr (by show A.handled.isNone=true;rw[show A.handled=none from hr.hd];rfl),Y,zt N ds,st0,r,jC dn,?_⟩;unfold jB at h;split at h
  ·split at h
   ·rename_i d s' e;rw[e];intro fv H' Y' stp fd;cases fv with
    | rt v=>exact h v H' Y' stp fd | _=>exact (show False from fd).elim
   ·rename_i Z s' e;rw[e];intro fv H' Y' stp fd;cases fv with
    | nx v=>exact h .non H' Y' stp (by simp[Den]) | _=>exact (show False from fd).elim
   ·rename_i c s' e;rw[e];exact h
   ·exact h.elim
  ·exact h.elim
def zmb(M:Mir):Mir:=λds s=>match M ds s with | .ex _ _=>.no | r=>r
end
def qK(f:FS):FS:=λZ s=>match f Z s with | .ex _ _=>.no | r=>r
theorem jP{X:Cx}{E:XK}{st:Stmt}{f:FS}(h:RS X.nox E0 st f):RS X E st (qK f):=λpins s O H D I hw=>by
 obtain⟨Y,Z,st0,r,en,q⟩:=hw;have q':okR (gm X) E0 H Y (FlD (gm X)) (f Z st0) (z3k D):=by
  unfold qK at q;cases e:f Z st0 with
  | ok d s'=>rw[e]at q;exact q | ex c s'=>rw[e]at q;exact q.elim | no=>rw[e]at q;exact q.elim
 exact _r (h pins s O H D (I.wish _) ⟨Y,Z,st0,r,en,q'⟩) (λ_ _ q=>q.unwish) λ_ _ z=>False.elim z
@[simp] theorem zfK (f:FS)(Z:Ev)(s:Sto):qK f Z s=(match f Z s with | .ex _ _=>.no | r=>r):=id rfl
@[simp] theorem zjz (c:Str)(Z:Ev)(s:Sto):z0X c Z s=.ex c s:=id rfl
theorem jv{P:Program}{w:World}{K:W.Frag}{mg:Str->Option Value}{base:Heap}{N:List Str}{qual:Str}{scope:Scope}{f:Addr}{cd:Value}{A:Around}{outer:List Env}{s:Shared}{H:Hp}{E:XK}: zap (z2i (CX1 P w) P w K mg base N qual scope f cd A outer s H E) E:=λ_ _ _ _ _ _ _ _ I hx hE=>zij I hx hE
end Dd
namespace PySem
open PySem.Sem (wp)
section
variable {M:Model}{A:Around}{E:Value->Shared->Prop}
theorem qp{h:Heap}{g:Array GenState}{d:Drawn}{t:Nat}{os:OsState}{e C D:Addr}{oe:Obj}{Q:Bool->Shared->Prop} {nm q:Str}{N:Addr}{bs bm:List Value}{hdct:Bool}{sn:List Str}{sub:List Value}{ab:Bool}{col:Option Bool}{dd:Option Addr}{k0 k1 k2 k3 k5:Option Value}{newId:String} {nm' q':Str}{N':Addr}{bs' bm':List Value}{hdct':Bool}{sn':List Str}{sub':List Value}{ab':Bool}{col':Option Bool}{dd':Option Addr}{k0' k1' k2' k3' k5':Option Value}{newId':String} (hC:h.get? C=some (excClassObj nm q C N bs bm hdct sn sub ab col dd k0 k1 k2 k3 k5 newId))(hD:h.get? D=some (excClassObj nm' q' D N' bs' bm' hdct' sn' sub' ab' col' dd' k0' k1' k2' k3' k5' newId')) (he:h.get? e=some oe)(hcls:oe.cls=.ref C)(hbase:bm'.contains (.type "BaseException")=true)(hsub:(Value.ref C::bm).contains (.ref D)=true) (hq:Q true ⟨h,g,d,t,os⟩):wpAny M A (excMatches (.ref e) (.ref D)) Q E ⟨h,g,d,t,os⟩:=by
 have hcB:(Value.ref D::bm').contains (.type "BaseException")=true:=by rw[List.contains_cons,hbase,Bool.or_true]
 have f:=tc_notTuple;unfold excMatches;repeat (first | (with_reducible refine _ay he ?_;rw[hcls]) | with_reducible refine _ay hD ?_ | with_reducible refine _ay hC ?_ | (with_reducible refine wpAny_isSubtype_exc hD ?_;rw[hcB]) | (with_reducible refine wpAny_isSubtype_exc hC ?_;rw[hsub]) | wp_step)
 exact hq
end
end PySem
namespace Dd
open L2
theorem _root_.L2.Inv.locals{X:Cx}{pins:List (Addr×Obj)}{O:L2.St}{H:Hp}{s:Shared}{h':Heap}{m':Str->Option Value}{t:Nat}(I:L2.Inv X pins O H s)(hn:h'.Ns X.env.locals m')(sb:Heap.SameBut X.env.locals s.heap h'): L2.Inv X pins (List.replicate X.N.length none) H {s with heap:=h',toks:=t}:=by
 have k:∀b o,b≠X.env.locals->s.heap.get? b=some o->h'.get? b=some o:=λb o n e=>sb.extBut _ _ n e;have neL:∀b o,X.s₀.heap.get? b=some o->b≠X.env.locals:=λb o e=>_y (_p (_m e) I.ok.above);refine⟨I.ok,I.os,I.bare,⟨λb o e n nf ne=>k b o (neL b o e) (I.base.keep b o e n nf ne),λb o e n hf ne=>?_,I.base.free,λb o e ne=>?_,I.base.tups,I.base.frzs,I.base.tbls⟩,⟨m',hn,λi x v h1 h2=>?_⟩,λx c e=>?_,I.free,I.freeC,λp hp=>?_,λa o e=>?_,by simp⟩
 ·obtain⟨sl,e1⟩:=I.base.slot b o e n hf ne;exact⟨sl,k b _ (neL b o e) e1⟩
 ·obtain⟨o1,e1⟩:=I.base.there b o e ne;exact⟨o1,k b _ (neL b o e) e1⟩
 ·rw[_a9]at h2;split at h2<;>cases h2
 ·obtain⟨v,o,ho,hd⟩:=I.cell x c e;exact⟨v,o,k c o (I.cne x c e) ho,hd⟩
 ·obtain⟨q1,q2,q3,q4⟩:=I.pin p hp;exact⟨k p.1 p.2 q3 q1,q2,q3,q4⟩
 ·refine (I.hok a o e).stay (λb u hb q=>k b u (λz=>?_) q) (λ_ q=>q) λ_ _ q=>q;have:=I.free;rw[<- z]at this;rcases hb with rfl | hb;·rw[e]at this;cases this
  ·rw[hb]at this;cases this
noncomputable abbrev Cx.at_(X:Cx)(pn:List (Addr×Obj))(xe:Value->Shared->Prop):Cx:={X with pn:=pn,xe:=xe}
abbrev Cx.mk_(X:Cx)(e:Addr)(pn:List (Addr×Obj)):Cx:={X with A:=X.A.mark (some (.ref e)),calm:=false,pn:=pn,xe:=λ_ _=>False}
theorem Cx.ok_at{X:Cx}(ok:X.Ok){pn:List (Addr×Obj)}{xe:Value->Shared->Prop}:(Cx.at_ X pn xe).Ok:= ⟨ok.mod,ok.kind,ok.glob,ok.blt,ok.above,ok.inj,ok.has,ok.cab,ok.hd,ok.frames,ok.stk,ok.exf,ok.bs,ok.bsz,ok.noex,ok.exfs,ok.funs,ok.frf⟩
theorem Cx.ok_of{X:Cx}{pn:List (Addr×Obj)}{xe:Value->Shared->Prop}(ok:(Cx.at_ X pn xe).Ok):X.Ok:= ⟨ok.mod,ok.kind,ok.glob,ok.blt,ok.above,ok.inj,ok.has,ok.cab,ok.hd,ok.frames,ok.stk,ok.exf,ok.bs,ok.bsz,ok.noex,ok.exfs,ok.funs,ok.frf⟩
theorem Cx.ok_mk{X:Cx}(ok:X.Ok){e:Addr}{pn:List (Addr×Obj)}:(Cx.mk_ X e pn).Ok:= ⟨ok.mod,ok.kind,ok.glob,ok.blt,ok.above,ok.inj,ok.has,ok.cab,(λh=>by cases h),ok.frames,ok.stk,ok.exf,ok.bs,ok.bsz,ok.noex,ok.exfs,ok.funs,ok.frf⟩
section
variable {X:Cx}{pins:List (Addr×Obj)}{O:L2.St}{H:Hp}{s:Shared}
theorem _root_.L2.Inv.at_(I:L2.Inv X pins O H s){xe:Value->Shared->Prop}:L2.Inv (Cx.at_ X (X.pn++pins) xe) [] O H s:= ⟨Cx.ok_at I.ok,I.os,I.bare,I.base,I.loc,I.cell,I.free,I.freeC,λp hp=>I.pin p (by simpa using hp),I.hok,I.len⟩
theorem _root_.L2.Inv.of_at{xe:Value->Shared->Prop}{pins':List (Addr×Obj)}(I:L2.Inv (Cx.at_ X (X.pn++pins) xe) pins' O H s):L2.Inv X pins O H s:= ⟨Cx.ok_of I.ok,I.os,I.bare,I.base,I.loc,I.cell,I.free,I.freeC,λp hp=>I.pin p (_af _ hp),I.hok,I.len⟩
theorem _root_.L2.Inv.mk_(I:L2.Inv X pins O H s){e:Addr}:L2.Inv (Cx.mk_ X e (X.pn++pins)) [] O H s:= ⟨Cx.ok_mk I.ok,I.os,I.bare,I.base,I.loc,I.cell,I.free,I.freeC,λp hp=>I.pin p (by simpa using hp),I.hok,I.len⟩
theorem _root_.L2.Inv.of_mk{e:Addr}{pins':List (Addr×Obj)}(ok:X.Ok)(I:L2.Inv (Cx.mk_ X e (X.pn++pins)) pins' O H s):L2.Inv X pins O H s:= ⟨ok,I.os,I.bare,I.base,I.loc,I.cell,I.free,I.freeC,λp hp=>I.pin p (_af _ hp),I.hok,I.len⟩
theorem Fly.land{P:Program}{w:World}{outer:List Env}{H H':Hp}{s s':Shared}{C ea:Addr}{h5 B:Heap}{a0:Value}(un:Un (frs outer) [] H H' s.heap s'.heap)(hok:HOk P w H' s'.heap)(fw:Heap.FlyingW B outer ea (.ref C) a0 s'.heap) (cov:∀b o,s'.heap.get? b=some o->(H' b≠none\/((∃o',s.heap.get? b=some o')/\b∉frs outer))->B.get? b=some o)(fw5:Heap.FlyingW B outer ea (.ref C) a0 h5)(sm:s'.heap.UpToSlots h5): s.heap.get? ea=none/\H' ea=none/\Un (frs outer) [] H (upd H' ea (zcI C ea)) s.heap h5/\HOk P w (upd H' ea (zcI C ea)) h5/\∃oe,h5.get? ea=some oe/\oe.cls=.ref C:=by
 have k:=fw5.1;obtain⟨oe,vs,T,oT,ts,he,⟨hcls,_⟩,hd,_⟩:=fw5.2.2.2;obtain⟨oe',vs',_,_,_,he',_,hd',_⟩:=fw.2.2.2;have new:s.heap.get? ea=none:=by cases z:s.heap.get? ea with
  | none=>rfl | some o=>
   exfalso;obtain⟨o1,e1⟩:=un.there ea o z (by simp);by_cases hf:ea∈frs outer
   ·obtain⟨_,o2,e2,hnf⟩:=fw.2.2.1.mem hf;rw[he']at e2;cases e2;exact hnf _ hd'
   ·have:=cov ea o1 e1 (.inr ⟨⟨o,z⟩,hf⟩);rw[fw.2.1]at this;cases this
 have hn:H' ea=none:=by cases z:H' ea with
  | none=>rfl | some u=>
   exfalso;have:=cov ea _ he' (.inl (by rw[z];simp));rw[fw.2.1]at this;cases this
 have ne:∀b o,s.heap.get? b=some o->b≠ea:=λb o e z=>by rw[z,new]at e;cases e
 have neH:∀b u,H' b=some u->b≠ea:=λb u e z=>by rw[z,hn]at e;cases e
 refine⟨new,hn,⟨λb o e n nf _=>?_,λb o e n hf _=>?_,λb o e n _=>?_,λb o e _=>?_,λb xs e=>?_,λb o u e=>?_,λb ps e=>?_⟩,λa o e=>?_,oe,he,hcls⟩
 ·have e1:=un.keep b o e n nf (by simp);exact k b o (cov b o e1 (.inr ⟨⟨o,e⟩,nf⟩))
 ·obtain⟨sl,e1⟩:=un.slot b o e n hf (by simp);obtain⟨_,o2,e2,hnf⟩:=fw.2.2.1.mem hf;rw[e1]at e2;cases e2;obtain⟨sl2,e3⟩:=sm b _ e1 hnf;exact⟨sl2,e3⟩
 ·rw[zE (ne b o e)];exact un.free b o e n (by simp)
 ·by_cases hf:b∈frs outer
  ·obtain⟨_,o2,e2,hnf⟩:=fw.2.2.1.mem hf;obtain⟨sl2,e3⟩:=sm b _ e2 hnf;exact⟨_,e3⟩
  ·obtain⟨o1,e1⟩:=un.there b o e (by simp);exact⟨o1,k b o1 (cov b o1 e1 (.inr ⟨⟨o,e⟩,hf⟩))⟩
 ·have q:=un.tups b xs e;rw[zE (neH b _ q)];exact q
 ·have q:=un.frzs b o u e;rw[zE (neH b _ q)];exact q
 ·obtain⟨more,q⟩:=un.tbls b ps e;exact⟨more,by rw[zE (neH b _ q)];exact q⟩
 ·by_cases z:a=ea
  ·subst z;rw[zN]at e;cases e;exact⟨⟨oe,vs,he,hcls,hd⟩,⟨oe,he⟩,λh1 h2 ⟨o,ws,q1,q2,q3⟩ st=>⟨o,ws,st o q1,q2,q3⟩⟩
  ·rw[zE z]at e;refine (HOk.cov hok (λb o e n=>cov b o e (.inl n)) k a o e).stay (λb u _ q=>q) (λb q=>?_) λb xs q=>?_;·rw[zE (neH b _ q)];exact q
   ·rw[zE (neH b _ q)];exact q
end
def zjq(K:W.Frag)(mg:Str->Option Value)(x y:Str):Prop:=∃C D,mg x=some (.ref C)/\mg y=some (.ref D)/\W.excIn K C bmV "ValueError.__new__"=true/\W.excIn K D bmV "ValueError.__new__"=true/\ ∀h₀:Heap,K.In h₀->∃bm N nm q bs hdct sn sub ab col dd k0 k1 k2 k3 k5,h₀.get? C=some (excClassObj nm q C N bs bm hdct sn sub ab col dd k0 k1 k2 k3 k5 "ValueError.__new__")/\(Value.ref C::bm).contains (.ref D)=true
section
variable {prog:Program}{w:World}{A:Around}{E:Value->Shared->Prop}{s:Shared}{env:Env}
theorem z1Q {e C D:Addr} {t:Expr} {n:Str} {b₀:Stmt} {suite:List Stmt} {pos:Pos} {ke:List ExceptHandler} {Q:Flow->Shared->Prop} (h:wpAny (model prog w) (A.mark (some (.ref e))) (eval t env) (λc s₁=>c=.ref D/\ (∃bm N nm q bs hdct sn sub ab col dd k0 k1 k2 k3 k5 newId,s₁.heap.get? C=some (excClassObj nm q C N bs bm hdct sn sub ab col dd k0 k1 k2 k3 k5 newId)/\(Value.ref C::bm).contains (.ref D)=true)/\ (∃bm N nm q bs hdct sn sub ab col dd k0 k1 k2 k3 k5 newId,s₁.heap.get? D=some (excClassObj nm q D N bs bm hdct sn sub ab col dd k0 k1 k2 k3 k5 newId)/\bm.contains (.type "BaseException")=true)/\(∃oe,s₁.heap.get? e=some oe/\oe.cls=.ref C)/\ wpAny (model prog w) (A.mark (some (.ref e))) (setFlight (.ref e) none) (λ_ s₂=> wpAny (model prog w) (A.mark (some (.ref e))) (storeName env n (.ref e)) (λ_ s₃=> wpAny (model prog w) (A.mark (some (.ref e))) (execs (b₀::suite) env) (λf s₄=>wpAny (model prog w) A (do bindName env n .none;unbindBehindTheSuite env n pos) (λ_ s₅=>Q f s₅) E s₄) (AsSuiteRaised (model prog w) (A.mark (some (.ref e))) env n pos (notedBy (model prog w) (A.mark (some (.ref e))) env (cameBackBy (model prog w) A env E))) s₃) (notedBy (model prog w) (A.mark (some (.ref e))) env (cameBackBy (model prog w) A env E)) s₂) (notedBy (model prog w) (A.mark (some (.ref e))) env (cameBackBy (model prog w) A env E)) s₁) (notedBy (model prog w) (A.mark (some (.ref e))) env (cameBackBy (model prog w) A env E)) s): wpAny (model prog w) A (handleBy (.ref e) env (.ExceptHandler (some t) (some n) (b₀::suite) pos::ke)) Q E s:=by
 refine wpAny_handleBy_cons (codeAny_handlers_test (_r h (λc s₁ h₁=>?_) λ_ _ y=>y)) (by intro q;cases q);obtain⟨rfl,⟨bm,N,nm,q,bs,hdct,sn,sub,ab,col,dd,k0,k1,k2,k3,k5,newId,hC,hsub⟩,⟨bm',N',nm',q',bs',hdct',sn',sub',ab',col',dd',k0',k1',k2',k3',k5',newId',hD,hbase⟩,⟨oe,he,hcls⟩,hk⟩:=h₁;obtain⟨hh,g,d,tk,os⟩:=s₁;exact qp hC hD he hcls hbase hsub (codeAny_handlers_suite_as hk)
end
end Dd
namespace PySem
open PySem.Sem (wp)
open PySem.W
structure ExcCls(K:Frag)(C:Addr):Prop where
 ga:findIn K (.ref C) "__getattribute__"=some (some (.builtin "BaseException.__getattribute__"))
 gh:findIn K (.ref C) "__getattr__"=some none
 cl:findIn K (.ref C) "__class__"=some (some (.builtin "object.__class__"))
 ob:mroIn K C (.type "object")=some true
 be:mroIn K C (.type "BaseException")=some true
 ty:∃d cd sl,K.lookup C=some ⟨.type "type",d,.cls cd,sl⟩
section
variable {prog:Program}{w:World}{A:Around}{E:Value->Shared->Prop}{K:Frag}{h:Heap}{g:Array GenState}{d:Drawn}{t:Nat}{os:OsState}{a C:Addr}{o:Obj}
theorem ziW{M:Model}(hx:h.get? a=some o)(hc:o.cls=.ref C):Looks M h (typeOf (.ref a)) (.ref C):=by
 intro A' Q' E' s' k q;unfold typeOf;refine _a (wpAny_loadPart (k _ _ hx) ?_);rw[hc];exact _b q
theorem z4P{R:Result->Shared->Prop}(X:K.In h)(Fx:ExcCls K C)(hx:h.get? a=some o)(hc:o.cls=.ref C)(hq:R (.ok (.ret (.ref C))) ⟨h,g,d,t,os⟩): codeAny (model prog w) A (.call (.builtin "getset_descriptor.__get__") ⟨[.builtin "object.__class__",.ref a,.ref C],[]⟩) R ⟨h,g,d,t,os⟩:=by
 have hT5:(⟨h,g,d,t,os⟩:Shared).TypeIs (.builtin "object.__class__") "getset_descriptor":=_b6;have L1:=looks_mroIn (M:=model prog w) X Fx.ob;rw[<- F.owner_object_class]at L1;refine codeAny_call_builtin F.slot_gs_get.plain F.entry_gs_get (F.slot_gs_get.check _ _ _ _ _ _ _ _ hT5 (F.args_gs_get _ _ _) ?_);repeat (any_goals (first | assumption | (with_reducible refine _ay hx ?_;rw[hc]) | (with_reducible refine L1.at ?_) | wp_step))
 refine⟨Code.quiet_builtin _ (by decide +kernel),_cn F.entry_object_class ?_⟩;repeat (any_goals (first | assumption | (with_reducible refine _ay hx ?_;rw[hc]) | wp_step))
theorem z1F{tk:Tok}{Q:Fin->Shared->Prop}(X:K.In h)(Fx:ExcCls K C)(hx:h.get? a=some o)(hc:o.cls=.ref C)(hq:Q (.done (.ret (.ref C))) ⟨h,g,d,t,os⟩): wpAny (model prog w) A (Builtin.«object.__getattribute__» ⟨[.ref a,.str "__class__" tk],[]⟩) Q E ⟨h,g,d,t,os⟩:=by
 have hT5:(⟨h,g,d,t,os⟩:Shared).TypeIs (.builtin "object.__class__") "getset_descriptor":=_b6;have L4:=looks_findIn (M:=model prog w) X Fx.cl;have f5:=_b6;have f6:=F.slot_gs_get.lookup;have f7:=F.slot_gs_set.lookup;repeat (any_goals (first | assumption | (with_reducible refine _ay hx ?_;rw[hc]) | (with_reducible refine L4.at ?_) | wp_step))
 refine z4P X Fx hx hc ?_;repeat (any_goals (first | assumption | wp_step))
theorem z6F{M:Model}{nameV:Value}{Q:Unit->Shared->Prop}(X:K.In h)(Fx:ExcCls K C)(hx:h.get? a=some o)(hc:o.cls=.ref C)(hq:Q () ⟨h,g,d,t,os⟩):wpAny M A (checkBuiltinCall "BaseException.__getattribute__" ⟨[.ref a,nameV],[]⟩) Q E ⟨h,g,d,t,os⟩:=by
 have hk:builtinKind "BaseException.__getattribute__"=some .slot:=by decide +kernel
 have hsplit:splitId "BaseException.__getattribute__"=some ("BaseException","__getattribute__"):=by decide +kernel
 have L1:=looks_mroIn (M:=M) X Fx.be;have ha:=F.args_bexc_ga (.ref a) nameV;simp only[checkBuiltinCall,hk,hsplit];refine _a ?_
 ·unfold isInstance;repeat (first | (with_reducible refine _ay hx ?_;rw[hc]) | (with_reducible refine L1.at ?_) | wp_step)
  exact hq
theorem z35{tk:Tok}{R:Result->Shared->Prop}(X:K.In h)(Fx:ExcCls K C)(hx:h.get? a=some o)(hc:o.cls=.ref C)(hq:R (.ok (.ret (.ref C))) ⟨h,g,d,t,os⟩): codeAny (model prog w) A (.call (.builtin "BaseException.__getattribute__") ⟨[.ref a,.str "__class__" tk],[]⟩) R ⟨h,g,d,t,os⟩:= codeAny_call_builtin F.attrBase_ValueError.ga.plain F.entry_bexc_ga (z6F X Fx hx hc (z1F X Fx hx hc hq))
theorem z5V{tk:Tok}{fill expr:Bool}{Q:Value->Shared->Prop}(X:K.In h)(Fx:ExcCls K C)(hx:h.get? a=some o)(hc:o.cls=.ref C)(hq:Q (.ref C) ⟨h,g,d,t,os⟩): wpAny (model prog w) A (getAttrBy (.ref a) (.str "__class__" tk) fill expr) Q E ⟨h,g,d,t,os⟩:=by
 have f3:=F.attrBase_ValueError.ga.bind (.ref a);have hx0:(expr&&onTheHeap (Value.builtin "BaseException.__getattribute__"))=false:=by cases expr<;>rfl
 have hx2:(Value.builtin "BaseException.__getattribute__"==Value.builtin "object.__getattribute__")=false:=by decide +kernel
 have hx1:(onTheHeap (Value.ref C)&&Value.builtin "BaseException.__getattribute__"==Value.builtin "object.__getattribute__")=false:=by rw[hx2];rfl
 have L1:=looks_findIn (M:=model prog w) X Fx.ga;have L2:=looks_findIn (M:=model prog w) X Fx.gh;repeat (any_goals (first | assumption | (with_reducible refine _ay hx ?_;rw[hc]) | (with_reducible refine L1.at ?_) | (with_reducible refine L2.at ?_) | wp_step))
 refine z35 X Fx hx hc ?_;repeat (any_goals (first | assumption | wp_step))
theorem z3p{Q:Option Value->Shared->Prop}(X:K.In h)(Fx:ExcCls K C)(hx:h.get? a=some o)(hc:o.cls=.ref C)(hq:Q (some (.ref C)) ⟨h,g,d,t+1,os⟩):wpAny (model prog w) A (getAttr? (.ref a) "__class__") Q E ⟨h,g,d,t,os⟩:=by
 unfold getAttr? getAttrBy?;repeat (any_goals (first | assumption | with_reducible apply z5V X Fx hx hc | (with_reducible refine _ay hx ?_;rw[hc]) | wp_step))
end
theorem zcD{K:Frag}{a C:Addr}(Fx:ExcCls K C):KitX K (.ref a) (.ref C) (λh=>∃o,h.get? a=some o/\o.cls=.ref C) where
 ty:=λ_ _ _ ⟨_,hx,hc⟩=>ziW hx hc;it:=λ_ _ X _=>by
  obtain⟨dd,cd,sl,ho⟩:=Fx.ty;intro A' Q' E' s' k q;unfold isType loadHead;exact _a (wpAny_loadPart (k _ _ (X _ _ ho)) (_b q))
 ne:=λh tp dd its n sl X htp=>by
  obtain⟨d2,cd,sl2,ho⟩:=Fx.ty;cases e:(Value.ref C==Value.ref tp) with
  | false=>rfl | true=>
   have e:=eq_of_beq e;cases e;have:=X _ _ ho;rw[htp]at this;simp at this
 ca:=λ{prog w A E Q s} X p hq=>by
  obtain⟨h,g,d,t,os⟩:=s;obtain⟨o,hx,hc⟩:=p;exact z3p X Fx hx hc hq
end PySem
namespace L2
end L2
namespace Dd
open L2
end Dd
namespace L2
open MeetsSeq MeetsSeq2 SeqAt
def ziT(k:Bool):Value->Bool
 | .bool b=>b==k | _=>false
theorem z4R:∀{bs:List Bool}{its:List Value},yw (bs.map V.bl) its->its=bs.map Value.bool
 | [],_,.nil=>rfl | b::bs,_,.cons r rs=>by
  cases r;rw[z4R rs];rfl
theorem zet:∀(bs:List Bool)(k:Bool)(m:Nat)(hm:m<bs.length),m<bs.idxOf k->(bs[m]==k)=false
 | [],k,m,hm,_=>absurd hm (by simp) | b::bs,k,m,hm,h=>by
  rw[List.idxOf_cons]at h;cases e:b==k with
  | true=>rw[e]at h;simp at h | false=>
   rw[e]at h;cases m with
   | zero=>simpa using e | succ m=>simpa using zet bs k m (by simpa using hm) (by simpa using h)
section
variable {X:Cx}
def zk2:V->List V->Hp->VK->Prop:=λx vs H Q=>∃(p:Addr)(bs:List Bool)(k:Bool),x=.ref p/\vs=[.bl k]/\Rd H p (.lst (bs.map V.bl))/\Q (.int (bs.count k:Nat)) H
theorem z7A:MtR X "list.count" zk2:=by
 intro pins s O H x vs v us Q I rx rv h;obtain⟨p,bs,k,rfl,rfl,hp,q⟩:=h;cases rx;obtain⟨u,rfl,ru⟩:=vals1 rv;cases ru;obtain⟨_,its,n,r,e1⟩:=hp.ok I.hok;cases z4R r;refine _bd PySem.F.slot_list_count ⟨_,e1,rfl⟩ PySem.F.entry_list_count (PySem.F.args_list_count_2 _ _) (list_countAt p _ n _ _ (.bool k) (ziT k)) ⟨e1,λy hy=>?_,?_⟩
 ·obtain⟨b,_,rfl⟩:=_J.mp (_da.mp hy);exact EqAt.bool_bool b k
 ·have e:(List.map Value.bool bs).countP (ziT k)=bs.count k:=by rw[List.countP_map];rfl
  refine⟨.int (bs.count k:Nat),H,I.kept (λb o e=>e),⟨s.toks,?_⟩,q⟩;rw[<- e]
def zkd:V->List V->Hp->VK->Prop:=λx vs H Q=>∃(p:Addr)(bs:List Bool)(k:Bool),x=.ref p/\vs=[.bl k]/\Rd H p (.lst (bs.map V.bl))/\k∈bs/\bs.length<2 ^ 62/\Q (.int (bs.idxOf k:Nat)) H
theorem z7c:MtR X "list.index" zkd:=by
 intro pins s O H x vs v us Q I rx rv h;obtain⟨p,bs,k,rfl,rfl,hp,hk,hl,q⟩:=h;cases rx;obtain⟨u,rfl,ru⟩:=vals1 rv;cases ru;obtain⟨_,its,n,r,e1⟩:=hp.ok I.hok;cases z4R r;have hj:bs.idxOf k<bs.length:=List.idxOf_lt_length_iff.mpr hk;refine _bd PySem.F.slot_list_index ⟨_,e1,rfl⟩ PySem.F.entry_list_index (PySem.F.args_list_index_2 _ _) (list_indexAt p _ n _ _ (.bool k) (ziT k) (bs.idxOf k) (by simpa using hj) (by omega) ?_ ?_) ⟨e1,λy hy=>?_,?_⟩
 ·have:=_cB hj;simp[ziT,this]
 ·intro m hm hlt;have hm':m<bs.length:=by simpa using hm
  have:=zet bs k m hm' hlt;simpa[ziT] using this
 ·obtain⟨b,_,rfl⟩:=_J.mp (_da.mp hy);exact EqAt.bool_bool b k
 ·exact⟨.int (bs.idxOf k:Nat),H,I.kept (λb o e=>e),⟨s.toks,rfl⟩,q⟩
end
end L2
namespace Dd
open L2
end Dd
namespace L2
structure uR(k:Nat)(A:Around):Prop where
 dp:A.depth+3*k+5<recursionLimit
 un:A.units+16*k+200<cLine
 gd:A.guards=some []
theorem z0e.h{k:Nat}{A:Around}(r:z0e k A):uR k A:=⟨r.dp,r.un,r.gd⟩
theorem uR.mono{j k:Nat}{A:Around}(r:uR k A)(h:j<=k):uR j A:=⟨by have:=r.dp;omega,by have:=r.un;omega,r.gd⟩
theorem uR.deeper{k:Nat}{A:Around}(r:uR (k+1) A)(env:Env):uR k (A.deeper env):= ⟨by have:=r.dp;show A.depth+1+3*k+5<_;omega,by have:=r.un;show A.units+3+16*k+200<_;omega,r.gd⟩
theorem uR.depth{k:Nat}{A:Around}(r:uR k A):A.depth<recursionLimit:=by have:=r.dp;omega
theorem uR.units{k:Nat}{A:Around}(r:uR k A):A.units+64<cLine:=by have:=r.un;omega
structure zbi(P:Program)(w:World)(K:W.Frag)(mg:Str->Option Value)(base:Heap)(CX:CXT)(k:Nat)(f:Addr)(fd:FuncData)(ps:List Str)(sp:Sp):Prop where
 len:∀vs H Q E,sp vs H Q E->vs.length=ps.length
 run:∀(A:Around)(outer:List Env)(s:Shared)(H:Hp)(args:Args)(us:List Value)(vs:List V)(Q:VK)(E:XK),uR k A->zhR P w K mg base A outer s H->BindsTo s fd args (ps.zip us)->yw vs us->sp vs H Q E-> codeAny (model P w) A (.call (.ref f) args) (CR CX outer P w H s Q E) s
theorem zgV {CX:CXT} {P:Program} {w:World} {K:W.Frag} {mg:Str->Option Value} {base:Heap} {k:Nat} {f:Addr} {name qual:Str} {params:Arguments} {body:List Stmt} {scope:Scope} {dV kV doc pm cdv ct oc:Value} {an od:Option Addr} {osl:Array (Option Value)} {N ps:List Str} {sp:Sp} (lk:K.lookup f=some ⟨oc,od,.func (W.fnOf name qual params body scope dV kV doc pm an cdv ct),osl⟩) (hcd:W.codeIn K cdv qual=true) (S:zA N ps scope) (len:∀vs H Q E,sp vs H Q E->vs.length=ps.length) (hbody:∀(A:Around) (outer:List Env) (s:Shared) (H:Hp) (vs:List V) (Q:VK) (E:XK),uR k (A.deeper (envOfC qual scope s.heap.objs.size f cdv))->sp vs H Q E-> ∃t,PSs (z2i CX P w K mg base N qual scope f cdv A outer s H E) body t/\t {nx:=λ_ H'=>Q .non H',rt:=Q} (start N vs) H): zbi P w K mg base CX (k+1) f (W.fnOf name qual params body scope dV kV doc pm an cdv ct) ps sp:=by
 refine⟨len,λA outer s H args us vs Q E hr e0 hb r hsp=>?_⟩;have hl:=len _ _ _ _ hsp;have KX:K.In s.heap:=e0.mod.kin.keeps λb o e=>(e0.bs b o e).1;have lim:s.heap.NoLimit:=e0.mod.nolimit.keeps λb o e=>(e0.bs b o e).1;have hkind:∀y∈ps.zip us,scope.names.lookup y.1=some .local\/(scope.names.lookup y.1=some .cell/\((cellsFrom (s.heap.objs.size+1) scope.names []).lookup y.1).isSome=true):=λ⟨n,v⟩ hy=>by
  rcases S.par n (_bJ hy).1 with q | q;·exact .inl q
  ·exact .inr ⟨q,_cZ _ _ _ (.inl q)⟩
 refine codeAny_call_function hr.depth (KX _ _ lk) rfl S.co S.gen rfl (W.codeRec_of KX hcd) (hb _ _ _ _ ?_);refine wpAny_newFunctionEnv_cells S.kind hkind λenv he s1 x=>?_;subst he;refine⟨lim.keeps x.toInCall.keep,codeAny_func ?_⟩;obtain⟨t,ht,hq⟩:=hbody A outer s H vs Q E (hr.deeper _) hsp;have I:Inv (z2i CX P w K mg base N qual scope f cdv A outer s H E) [] (start N vs) H s1:=z62 S e0 hl r x;refine _r (ht [] s1 (start N vs) H _ I hq) (λfl s' hs=>?_) λe s' hs=>hs;have fin:∀{O':St} {H':Hp} {v:V} {u:Value},Inv (z2i CX P w K mg base N qual scope f cdv A outer s H E) [] O' H' s'->yr v u->Q v H'->CE outer P w H s Q u s':= λ{O' H' v u} J rv q=>⟨v,H',J.os,J.bare,J.base,J.hok,rv,q⟩;cases fl with
 | ret u=>
  obtain⟨v,O',H',J,rv,q⟩:=hs;exact fin J rv q | next=>
  obtain⟨O',H',J,q⟩:=hs;exact fin (v:=V.non) (u:=Value.none) J rfl q | brk=>
  obtain⟨_,_,_,q⟩:=hs;exact False.elim q | cont=>
  obtain⟨_,_,_,q⟩:=hs;exact False.elim q
section
variable {X:Cx}{CX:CXT}{k:Nat}{f:Addr}{fd:FuncData}{ps:List Str}{sp:Sp}{ds:List Value}{dvs:List V}{E:XK}{x:Str}{p pos:Pos}{e:Expr}{es:List Expr}{t:TA}
theorem zfj{pins:List (Addr×Obj)}{O:St}{H:Hp}{s:Shared}{Q:VK}{us:List Value}{vs:List V}(F:zbi X.prog X.w X.K X.mg X.base CX k f fd ps sp)(hr:uR k X.A)(hb:Binds X.K fd ps ds)(hd:yw dvs ds)(hx:Passes CX X E) (I:Inv X pins O H s)(r:yw vs us)(h:sp (vs++dvs) H Q E):wpAny (model X.prog X.w) X.A (call (.ref f) us) (EP X pins O Q) X.xe s:=by
 have r2:yw (vs++dvs) (us++ds):=r.append hd;have hl:(us++ds).length=ps.length:=by rw[<- r2.length];exact F.len _ _ _ _ h
 refine wpAny_call (_ct (F.run X.A X.stack s H ⟨us,[]⟩ (us++ds) (vs++dvs) Q E hr I.env0 (hb s us I.kIn hl) r2 h) λr s' hq=>?_);cases r with
 | error e=>exact hx pins O H s e s' I hq | ok fl=> cases fl with
  | ret u=>exact I.after hq | next=>exact False.elim hq | brk=>exact False.elim hq | cont=>exact False.elim hq
theorem zch (F:zbi X.prog X.w X.K X.mg X.base CX k f fd ps sp) (hr:uR k X.A) (hg:Gl X x) (hm:X.mg x=some (.ref f)) (hk:W.keepIn X.K (.ref f)=true) (hb:Binds X.K fd ps ds) (hd:yw dvs ds) (hx:Passes CX X E) (ha:PA X (e::es) t) (hdb:(x==("__debug__":Str))=false:=by decide) (he:starEach (e::es) X.env=(false,eval e X.env)::starEach es X.env:=by rfl) (hpl:(backTo pos (starEach es X.env)).any (·.1)=false:=by rfl): PE X (.Call (.Name x p) (e::es) [] pos) (zfa sp dvs E t):=by
 intro pins s O H Q I h;refine _ag (z0D I hg hm ?_ hdb);refine _dh (h₀:=X.base) I.ok.mod.kin hk (thn (ha pos pins s O H _ I h) λus s1 ⟨vs,H1,I1,r,q⟩=>⟨I1.kIn,?_⟩) he hpl;exact zfj F hr hb hd hx I1 r q
end
section
variable {P:Program}{w:World}{K:W.Frag}{mg:Str->Option Value}{base:Heap}
theorem Fun.okH{x qual:Str}{st:Stmt}{f:Addr}{fd:FuncData}{N ps:List Str}{k:Nat}{sp:Sp}(F:Fun K x qual st f fd)(S:zA N ps (zh st))(len:∀vs H Q E,sp vs H Q E->vs.length=ps.length) (hbody:∀(cdv:Value)(A:Around)(outer:List Env)(s:Shared)(H:Hp)(vs:List V)(Q:VK)(E:XK),uR k (A.deeper (envOfC qual (zh st) s.heap.objs.size f cdv))->sp vs H Q E-> ∃t,PSs (z2i CX0 P w K mg base N qual (zh st) f cdv A outer s H E).nox (wW st) t/\t {nx:=λ_ H'=>Q .non H',rt:=Q} (start N vs) H):zbi P w K mg base CX0 (k+1) f fd ps sp:=by
 obtain⟨oc,od,kV,doc,pm,an,cdv,ct,osl,rfl,lk,hcd⟩:=F.ex;refine zgV lk hcd S len λA outer s H vs Q E hr hsp=>?_;obtain⟨t,h,q⟩:=hbody cdv A outer s H vs Q E hr hsp;exact⟨t,h.nox,q⟩
end
end L2
namespace Dd
open L2
def zju(P:Program)(w:World)(K:W.Frag)(mg:Str->Option Value)(base:Heap)(CX:CXT)(x:Str)(n:Nat)(M:Mir):Prop:= ∃f fd ps,zbi P w K mg base CX n f fd ps (zcu ⟨mg,K⟩ M)/\Binds K fd ps []/\W.keepIn K (.ref f)=true/\mg x=some (.ref f)
section
variable {X:Cx}{E:XK}{e:Expr}{es:List Expr}{pos:Pos}{CX:CXT}
theorem zgo {x:Str} {p:Pos} {n:Nat} {M:Mir} {f:FA} (F:zju X.prog X.w X.K X.mg X.base CX x n M) (hr:uR n X.A) (hx:Passes CX X E) (hg:Gl X x) (ha:RA X E (e::es) f) (hdb:(x==("__debug__":Str))=false:=by decide) (he:starEach (e::es) X.env=(false,eval e X.env)::starEach es X.env:=by rfl) (hpl:(backTo pos (starEach es X.env)).any (·.1)=false:=by rfl):RE X E (.Call (.Name x p) (e::es) [] pos) (zi M f):=by
 obtain⟨fa,fd,ps,F,hb,hk,hm⟩:=F;refine zL (zch F hr hg hm hk hb .nil hx ha hdb he hpl) λO H Q ⟨Y,Z,s,r,en,h⟩=>?_;refine vE (k:=λZ xs s1=>M xs s1) r en h _ λvs H2 Y2 s2 ds r2 en2 dn2 stp2 h3=>?_;rw[_aD];exact⟨Y2,s2,ds,r2,dn2,h3⟩
end
section
variable {P:Program}{w:World}{K:W.Frag}{mg:Str->Option Value}{base:Heap}
theorem zfF{x qual:Str}{st:Stmt}{f:Addr}{fd:FuncData}{N ps:List Str}{k n:Nat}{fs:FS}(F:Fun K x qual st f fd)(hm:mg x=some (.ref f))(hb:Binds K fd ps [])(S:zA N ps (zh st))(hn:ps.length=n) (body:∀(cdv:Value)(A:Around)(outer:List Env)(s:Shared)(H:Hp)(E:XK),uR k (A.deeper (envOfC qual (zh st) s.heap.objs.size f cdv))-> RSs (z2i CX0 P w K mg base N qual (zh st) f cdv A outer s H E).nox E0 (wW st) fs):zju P w K mg base CX0 x (k+1) (Mof N n fs):=by
 subst hn;refine⟨f,fd,ps,F.okH S (λvs H Q E h=>?_) (λcdv A outer s H vs Q E hr h=>?_),hb,F.kp,hm⟩
 ·obtain⟨Y,s,ds,_,dn,h⟩:=h;unfold Mof at h;split at h;·rename_i e;rw[dn.length];exact e
  ·exact h.elim
 ·obtain⟨Y,st0,ds,r,dn,h⟩:=h;refine⟨_,body cdv A outer s H E hr,Y,zt N ds,st0,r,jC dn,?_⟩;unfold Mof at h;split at h
  ·split at h
   ·rename_i d s' e;rw[e];intro fv H' Y' stp fd;cases fv with
    | rt v=>exact h v H' Y' stp fd | _=>exact (show False from fd).elim
   ·rename_i Z s' e;rw[e];intro fv H' Y' stp fd;cases fv with
    | nx v=>exact h .non H' Y' stp (by simp[Den]) | _=>exact (show False from fd).elim
   ·exact h.elim
  ·exact h.elim
end
theorem z14{X:Cx}:xF X (.builtin "isinstance") (λxs H Q=>∃(a C:Addr)(y:V)(b:Bool),xs=[.ref a,y]/\H a=some (zcI C a)/\PySem.ExcCls X.K C/\(∀c,yr y c->W.kitOne X.K (.ref C) c=some b)/\Q (.bl b) H):=by
 intro pins s O H xs us Q I r h;obtain⟨a,C,y,b,rfl,ha,hc,hk,q⟩:=h;obtain⟨u,v,rfl,ru,rv⟩:=vals2 r;cases ru;obtain⟨⟨o,vs,h1,h2,_⟩,_⟩:=(show yM X.prog X.w H s.heap a (zcI C a) from I.hok a _ ha);exact _a8 (PySem.zcD hc) I.kIn ⟨o,h1,h2⟩ (hk v rv) (λz=>nomatch z) λtk=>⟨.bl b,H,I.tok _,rfl,q⟩
structure z5J(mg:Gm)(rs cs:List Str):Prop where
 cls:∀c∈rs,∀C,mg.m c=some (.ref C)->PySem.ExcCls mg.K C
 has:∀d∈cs,∃D,mg.m d=some (.ref D)
 one:∀c∈rs,∀d∈cs,∀C D,mg.m c=some (.ref C)->mg.m d=some (.ref D)->W.kitOne mg.K (.ref C) (.ref D)=some (c==d)
 val:∀c∈rs,∀C,mg.m c=some (.ref C)->W.kitOne mg.K (.ref C) (.type "ValueError")=some true
def zjs(rs:List Str)(T:Str):D->Sto->R D
 | .exc c,s=>if c∈rs then .ok (.bl (c==T)) s else .no | _,_=>.no
def z1r(rs:List Str)(T:Str)(f:FE):FE:=λZ s=>(f Z s).bind λd s1=>zjs rs T d s1
def zjt(rs:List Str):D->Sto->R D
 | .exc c,s=>if c∈rs then .ok (.bl true) s else .no | _,_=>.no
def zlb(rs:List Str)(f:FE):FE:=λZ s=>(f Z s).bind λd s1=>zjt rs d s1
section
variable {X:Cx}{E:XK}{e:Expr}{pos:Pos}
theorem jp{p p2:Pos}{T:Str}{rs cs:List Str}{f:FE}(FM:z5J (gm X) rs cs)(hT:T∈cs)(hg:Gl X "isinstance")(hm:X.mg "isinstance"=none)(hg2:Gl X T)(he:RE X E e f) (hd:(T==("__debug__":Str))=false:=by decide) (hs:starEach [e,.Name T p2] X.env=(false,eval e X.env)::starEach [.Name T p2] X.env:=by rfl)(hpl:(backTo pos (starEach [.Name T p2] X.env)).any (·.1)=false:=by rfl):RE X E (.Call (.Name "isinstance" p) [e,.Name T p2] [] pos) (z1r rs T f):=by
 obtain⟨D,hD⟩:=FM.has T hT;exact zL (z1A z14 hg hm (by decide +kernel) (wS he (wS (z2z hg2 hD (show yr (.ref D) (.ref D) from rfl) hd) kY (zC ..)) hs) (by decide) (by decide) hs hpl) λO H Q ⟨Y,Z,s,r,en,h⟩=>by
  refine zO (k:=λZ d s1=>zjs rs T d s1) r en h _ λv H1 Y1 s1 d r1 en1 dn stp h1=>?_;unfold zjs at h1;split at h1
  ·rename_i c;split at h1
   ·rename_i hc;simp only[Den]at dn;obtain⟨a,C,rfl,hC,hH⟩:=dn;exact⟨a,C,.ref D,c==T,rfl,hH,FM.cls c hc C hC,λz hz=>by cases hz;exact FM.one c hc T hT C D hC hD,okR.here (b:=V.bl (c==T)) h1 r1 vJ⟩
   ·exact h1.elim
  ·exact h1.elim
theorem zjM{p p2:Pos}{rs cs:List Str}{f:FE}(FM:z5J (gm X) rs cs)(hg:Gl X "isinstance")(hm:X.mg "isinstance"=none)(hg2:Gl X "ValueError")(hm2:X.mg "ValueError"=none)(he:RE X E e f) (hs:starEach [e,.Name "ValueError" p2] X.env=(false,eval e X.env)::starEach [.Name "ValueError" p2] X.env:=by rfl)(hpl:(backTo pos (starEach [.Name "ValueError" p2] X.env)).any (·.1)=false:=by rfl):RE X E (.Call (.Name "isinstance" p) [e,.Name "ValueError" p2] [] pos) (zlb rs f):= zL (z1A z14 hg hm (by decide +kernel) (wS he (wS (zaS hg2 hm2 (by decide +kernel) (show yr (.ty "ValueError") (.type "ValueError") from rfl)) kY (zC ..)) hs) (by decide) (by decide) hs hpl) λO H Q ⟨Y,Z,s,r,en,h⟩=>by
  refine zO (k:=λZ d s1=>zjt rs d s1) r en h _ λv H1 Y1 s1 d r1 en1 dn stp h1=>?_;unfold zjt at h1;split at h1
  ·rename_i c;split at h1
   ·rename_i hc;simp only[Den]at dn;obtain⟨a,C,rfl,hC,hH⟩:=dn;exact⟨a,C,.ty "ValueError",true,rfl,hH,FM.cls c hc C hC,λz hz=>by cases hz;exact FM.val c hc C hC,okR.here (b:=V.bl true) h1 r1 vJ⟩
   ·exact h1.elim
  ·exact h1.elim
end
section
variable {X:Cx}{E:XK}{e a b:Expr}{es:List Expr}{pos:Pos}{CX:CXT}
theorem zkg{x:Str}{g:Addr}{p:Pos}(hg:Gl X x)(hm:X.mg x=some (.ref g))(hd:(x==("__debug__":Str))=false:=by decide):RE X E (.Name x p) (eC (.fn x)):= zL (z2z hg hm (show yr (.ref g) (.ref g) from rfl) hd) λO H Q ⟨Y,Z,s,r,en,h⟩=>okR.here h r (by simp only[Den];exact⟨g,rfl,hm⟩)
theorem ziR{x:Str}{p:Pos}{n:Nat}{M:Mir}(F:Has X.prog X.w X.K X.mg X.base CX x n M)(hg:Gl X x)(hd:(x==("__debug__":Str))=false:=by decide):RE X E (.Name x p) (eC (.fn x)):=by
 obtain⟨f,_,_,_,_,_,hm⟩:=F;exact zkg hg hm hd
noncomputable def z8z(g:FE)(Ms:List (Str×Mir))(f:FA):FE:=λZ s=>(g Z s).bind λd s1=>match d with
 | .fn y=>match Ms.lookup y with
  | some M=>(f Z s1).bind λxs s2=>M xs s2 | none=>.no
 | _=>.no
theorem zdB(args:List Expr)(sp:Pos)(env:Env):eval (.Call (.Subscript a b sp) args [] pos) env=(do callWith pos (<- eval (.Subscript a b sp) env) [] (backTo pos (starEach args env)) (backToKw pos (keywordEach [] env))):=rfl
theorem zgK {sp:Pos} {n:Nat} {Ms:List (Str×Mir)} {g:FE} {f:FA} (F:∀y M,Ms.lookup y=some M->Has X.prog X.w X.K X.mg X.base CX y n M) (hr:z0e n X.A) (hxx:Passes CX X E) (hg:RE X E (.Subscript a b sp) g) (ha:RA X E (e::es) f) (he:starEach (e::es) X.env=(false,eval e X.env)::starEach es X.env:=by rfl) (hpl:(backTo pos (starEach es X.env)).any (·.1)=false:=by rfl):RE X E (.Call (.Subscript a b sp) (e::es) [] pos) (z8z g Ms f):=by
 intro pins s O H Q I ⟨Y,Z,st,r,en,h⟩;unfold z8z at h;rw[zdB];refine _a (thn (hg pins s O H (λv H1=>∃Y1 s1 d,xx (gm X) H Y H1 Y1 s1/\Den (gm X) H1 Y1 d v/\okR (gm X) E H1 Y1 (Den (gm X)) (match d with
  | .fn y=>match Ms.lookup y with
   | some M=>(f Z s1).bind λxs s2=>M xs s2 | none=>.no
  | _=>.no) Q) I ⟨Y,Z,st,r,en,(okR.bind (Dn:=Den (gm X)) h).imp λv H1 q=>q⟩) λu s1 ⟨v,H1,I1,r1,Y1,st1,d,stp,dn,h1⟩=>?_);split at h1
 ·rename_i y;split at h1
  ·rename_i M hM;simp only[Den]at dn;obtain⟨gg,rfl,hmg⟩:=dn;cases r1;obtain⟨fa,fd,ps,Fk,hb,hk,hm⟩:=F y M hM;have e0:gg=fa:=by
    have hmg':X.mg y=some (.ref gg):=hmg;rw[hmg']at hm;cases hm;rfl
   subst e0;have hA:=ha pos pins s1 O H1 (λvs H2=>zcu (gm X) M (vs++[]) H2 Q E) I1 (vE (k:=λZ xs s1=>M xs s1) stp.rep (en.mono stp) h1 _ λvs H2 Y2 s2 ds r2 en2 dn2 stp2 h3=>by
    rw[_aD];exact⟨Y2,s2,ds,r2,dn2,h3⟩);refine _dh (h₀:=X.base) I1.ok.mod.kin hk (thn hA λus s2 ⟨vs,H2,I2,r2,q⟩=>⟨I2.kIn,?_⟩) he hpl;exact z8K Fk hr hb .nil hxx I2 r2 q
  ·exact h1.elim
 ·exact h1.elim
end
end Dd
namespace PySem
open PySem.AutoSeq1 (wpAny_loadPart')
open MeetsSeq MeetsSeq2 SeqAt
theorem z5y (l:Addr) (items:Array Value) (n:Nat) (dd:Option Addr) (sl:Array (Option Value)) (x:Int) (u:Tok) (h2:2<=x) (hx:x<2 ^ 63) (hne:items.isEmpty=false) (hc:¬ (items.size:Int)*x > (2 ^ 63-1) / 8) (ht:Builtin.Tuple.tupleTooMany ((items.size:Int)*x)=false) (hs:((List.replicate x.toNat items).foldl (· ++ ·) #[]).size<=sizeLine): Meets (Builtin.«tuple.__mul__» ⟨[.ref l,.int x u],[]⟩) (λA R s=>s.heap.get? l=some {cls:=.type "tuple",dict:=dd,data:=.seq items n,slots:=sl}/\R (.ok (.ret (.ref s.heap.objs.size))) {s with heap:=s.heap.push {cls:=.type "tuple",data:=.seq ((List.replicate x.toNat items).foldl (· ++ ·) #[])}}):= .of_wp λprog w A R s h=>by
  obtain⟨hp,g,d,tk,os⟩:=s;obtain⟨hl,h⟩:=h;have e1:(x==1)=false:=by simp;omega
  have e2:decide (x<=0)=false:=by simp;omega
  have e3:decide (x < -(2 ^ 63))=false:=by simp;omega
  have e4:decide (x ≥ 2 ^ 63)=false:=by simp;omega
  wp_walk using _aj hl;rw[_j (by simp;omega)];wp_walk using _aj hl;rw[_j hc];wp_walk;exact⟨_,rfl,h⟩
theorem z4g(l:Addr)(items:Array Value)(n:Nat)(dd:Option Addr)(sl:Array (Option Value))(u:Tok): Meets (Builtin.«tuple.__mul__» ⟨[.ref l,.int 1 u],[]⟩) (λA R s=>s.heap.get? l=some {cls:=.type "tuple",dict:=dd,data:=.seq items n,slots:=sl}/\R (.ok (.ret (.ref l))) s):= .of_wp λprog w A R s h=>by
  obtain⟨hp,g,d,tk,os⟩:=s;obtain⟨hl,h⟩:=h;wp_walk using _aj hl;exact⟨_,rfl,h⟩
theorem qI:fillsNumberSlot (.type "tuple") "mul"=pure false:= fillsNumberSlot_seq (id:="tuple.__mul__") (r:=some (.builtin "tuple.__rmul__")) _cb.lookup (by decide +kernel) F.slot_tuple_rmul.lookup (by decide +kernel)
theorem z0Y:seqRepeat? (.type "tuple")=pure (some (.builtin "tuple.__mul__")):=by
 unfold seqRepeat?;rw[seqSlot_of (T:="tuple") (name:="__mul__") (id:="tuple.__mul__") _cb.lookup (by decide +kernel),seqSlot_of (T:="tuple") (name:="__rmul__") (id:="tuple.__rmul__") F.slot_tuple_rmul.lookup (by decide +kernel)];rfl
theorem uG(a:Int)(t:Tok)(l:Addr)(items:Array Value)(n:Nat)(dd:Option Addr)(sl:Array (Option Value)): Meets (Builtin.«int.__rmul__» ⟨[.int a t,.ref l],[]⟩) (λ_ R s=>s.heap.get? l=some {cls:=.type "tuple",dict:=dd,data:=.seq items n,slots:=sl}/\R (.ok (.ret Value.notImplemented)) s):= .of_wp λprog w A R s h=>by obtain⟨hp,g,d,tk,os⟩:=s;obtain⟨hl,h⟩:=h;wp_walk;exact⟨_,rfl,h⟩
end PySem
namespace L2
section
variable {X:Cx}
def zkI:R2:=λx y H Q=>∃l k xs,x=.ref l/\y=.int k/\H l=some (.tup xs)/\1<=k/\xs≠[]/\xs.length*k.toNat<=sizeLine/\ ((k=1->Q (.ref l) H)/\∀p,H p=none->Q (.ref p) (upd H p (.tup (List.replicate k.toNat xs).flatten)))
theorem zgI:OpR X (binaryOp .Mult) zkI:=by
 intro pins s O H x y v u Q I rx ry h;obtain⟨l,k,xs,rfl,rfl,hH,h1,hne,hz,q1,q⟩:=h;cases rx;obtain⟨t,rfl⟩:=ry;obtain⟨z,its,r,o,e,c1,d1,n,w1⟩:=(show yM X.prog X.w H s.heap l (.tup xs) from I.hok l _ hH);obtain⟨cls,dd,data,sl⟩:=o;simp only at c1 d1 w1;subst c1 d1 w1;have hl:xs.length=its.length:=by have:=r.length;omega
 have hp:0<its.length:=by rw[<- hl];exact _bE.mpr hne
 have hk:(k.toNat:Int)=k:=by omega
 have hlen:its.length*k.toNat<=sizeLine:=by rw[<- hl];exact hz
 have hkle:k.toNat<=sizeLine:=_S (Nat.le_mul_of_pos_left _ hp) hlen;have hS:(sizeLine:Nat)<=(2 ^ 63-1) / 8:=by decide
 have hkb:k<2 ^ 63:=by
  have:k.toNat<=(2 ^ 63-1) / 8:=_S hkle hS;omega
 have hm:(its.toArray.size:Int)*k=((its.length*k.toNat:Nat):Int):=by rw[_k,Int.natCast_mul,hk]
 by_cases ho:k=1
 ·subst ho;refine _bC (T:="tuple") (U:="int") (by decide) ⟨_,e,rfl⟩ (λs'=>_b9 s' 1 t) qI F.fills_int_mul _bm z0Y _c2.lookup (_bd _bm (_b9 s 1 t) _c3 (_cM _ _) (uG 1 t l its.toArray n _ sl) ⟨e,rfl,⟨_,e,rfl⟩,_bd _cb ⟨_,e,rfl⟩ F.entry_tuple_mul (F.args_tuple_mul_2 _ _) (z4g l its.toArray n _ sl t) ⟨e,?_⟩⟩);exact⟨.ref l,H,I,rfl,q1 rfl⟩
 ·have hnew:List.foldl (λx1 x2=>x1++x2) #[] (List.replicate k.toNat its.toArray)=(List.replicate k.toNat its).flatten.toArray:=by
   have:=foldl_rep its k.toNat [];rw[_bl]at this;exact this
  refine _bC (T:="tuple") (U:="int") (by decide) ⟨_,e,rfl⟩ (λs'=>_b9 s' k t) qI F.fills_int_mul _bm z0Y _c2.lookup (_bd _bm (_b9 s k t) _c3 (_cM _ _) (uG k t l its.toArray n _ sl) ⟨e,rfl,⟨_,e,rfl⟩,_bd _cb ⟨_,e,rfl⟩ F.entry_tuple_mul (F.args_tuple_mul_2 _ _) (z5y l its.toArray n _ sl k t (by omega) hkb (by cases its with | nil=>simp at hp | cons a b=>rfl) (by rw[hm];have:=_S hlen hS;omega) (by rw[hm];unfold Builtin.Tuple.tupleTooMany;exact _X (by omega)) (by rw[hnew,_k,len_rep,Nat.mul_comm];exact hlen)) ⟨e,?_⟩⟩);rw[hnew];have hlz:(List.replicate k.toNat xs).flatten.length<=sizeLine:=by rw[len_rep,Nat.mul_comm];exact hz
  exact⟨.ref _,_,I.laid (o:=.tup (List.replicate k.toNat xs).flatten) (t':=s.toks) (λb u q=>_d _ q) (_h _) ⟨hlz,_,r.rep k.toNat,za3.new _ _⟩,rfl,q _ I.fresh⟩
end
end L2
namespace Dd
open L2
section
variable {X:Cx}{E:XK}
noncomputable def z8Z:D->D->Sto->R D
 | .tup xs,.int k,s=>if 1<=k/\xs≠[]/\xs.length*k.toNat<=cap then .ok (.tup (List.replicate k.toNat xs).flatten) s else .no | _,_,_=>.no
theorem ziY:∃r,OpR X (binaryOp .Mult) r/\OpF X E r z8Z:=by
 refine⟨_,zgI,?_⟩;intro H Y s d1 d2 v1 v2 Q r h1 h2 h;unfold z8Z at h;split at h
 ·rename_i xs k;cases zT h2;split at h
  ·rename_i hl;have hden:=h1;simp only[Den]at h1;obtain⟨a,vs,rfl,e1,e2⟩:=h1;refine⟨a,k,vs,rfl,rfl,e1,hl.1,λz=>?_,by rw[e2.length];exact ui hl.2.2,λhk=>?_,z2j r h (e2.flat_rep _)⟩
   ·subst z;have:=e2.length;exact hl.2.1 (_ao.mp (by simpa using this.symm))
   ·subst hk;have e:(List.replicate (1:Int).toNat xs).flatten=xs:=by simp
    rw[e]at h;exact h.here r hden
  ·exact h.elim
 ·exact h.elim
@[simp] theorem zf4 (xs:List D)(k:Int)(s:Sto):z8Z (.tup xs) (.int k) s=if 1<=k/\xs≠[]/\xs.length*k.toNat<=cap then .ok (.tup (List.replicate k.toNat xs).flatten) s else .no:=id rfl
end
end Dd
namespace L2
section
variable {X:Cx}{pos:Pos}
theorem Inv.far{pins:List (Addr×Obj)}{O:St}{H:Hp}{s:Shared}(I:Inv X pins O H s):(s.heap.objs.size==sysModules)=false:=by
 obtain⟨o,es,ep,h,_⟩:=I.mod.glob.keeps I.bk;have h1:(mainGlobals:Nat)<s.heap.objs.size:=_m h;have e1:(1:Nat)<=(mainGlobals:Nat):=by decide
 have h2:(1:Nat)<s.heap.objs.size:=Nat.lt_of_le_of_lt e1 h1;have h3:s.heap.objs.size≠(1:Nat):=_cs h2;exact beq_false_of_ne h3
def zk7:TE:=λ_ H Q=>∀p,H p=none->Q (.ref p) (upd H p (.dK []))
theorem zfD:PE X (.Dict [] [] pos) zk7:=by
 intro pins s O H Q I hq;refine wpAny_Dict_empty ?_;refine⟨.ref s.heap.objs.size,upd H s.heap.objs.size (.dK []),I.laid (o:=.dK []) (t':=s.toks) (λb u e=>_d _ e) (_h _) ⟨_am _,I.far,[],?_,Heap.DictOf.new _⟩,rfl,hq _ (I.hok.fresh (_h _))⟩;constructor
end
end L2
namespace Dd
open L2
section
variable {X:Cx}{E:XK}{pos:Pos}
theorem zh6:RE X E (.Dict [] [] pos) (eC .dct):= zL zfD λO H Q ⟨Y,Z,s,r,en,h⟩=>λp hp=>by
  have stp:=xx.lay (o:=.dK []) r hp (by intro _ z;cases z);exact h _ _ _ stp (by simp only[Den];exact⟨p,rfl,zN⟩)
end
structure XOk(K:W.Frag)(C:Addr):Prop where
 exc:W.excIn K C bmV "ValueError.__new__"=true
 cls:PySem.ExcCls K C
 val:W.kitOne K (.ref C) (.type "ValueError")=some true
theorem z6d{K:W.Frag}{C:Addr}(h:z2F K C=true):∃d cd sl,K.lookup C=some ⟨.type "type",d,.cls cd,sl⟩:=by
 unfold z2F at h;split at h
 ·rename_i t d cd sl e;have:=_aw.mp h;subst this;exact⟨_,_,_,e⟩
 ·cases h
theorem uk{K:W.Frag}{x:Str}(h:z4b K x=true):∃C,W.nsIn K mainGlobals x=some (some (.ref C))/\XOk K C:=by
 unfold z4b at h;split at h
 ·rename_i C e;simp only[_z]at h;obtain⟨h1,h2,h3,h4,h5,h6,h7,h8⟩:=h;exact⟨C,e,h1,⟨_aw.mp h2,_aw.mp h3,_aw.mp h4,_aw.mp h5,_aw.mp h6,z6d h7⟩,_aw.mp h8⟩
 ·cases h
section
variable {K:W.Frag}{mg:Str->Option Value}(G:∀(x:Str)(v:Value),W.nsIn K mainGlobals x=some (some v)->mg x=some v)
include G
theorem z0i{x:Str}(h:z4b K x=true):z7J K mg x:=by
 obtain⟨C,e,o⟩:=uk h;exact⟨C,G x _ e,o.exc⟩
theorem zaq{rs cs:List Str}(hr:∀x∈rs,z4b K x=true)(hc:∀y∈cs,z4b K y=true)(h:∀x∈rs,∀y∈cs,(z3G K x y).map (·.2)=some (some (x==y))):z5J ⟨mg,K⟩ rs cs:=by
 have un:∀x C D,W.nsIn K mainGlobals x=some (some (.ref D))->mg x=some (.ref C)->C=D:=λx C D e m=>by
  have:=G x _ e;rw[m]at this;cases this;rfl
 refine⟨λc hcm C m=>?_,λd hd=>?_,λc hcm d hd C D mC mD=>?_,λc hcm C m=>?_⟩
 ·obtain⟨D,e,o⟩:=uk (hr c hcm);cases un c C D e m;exact o.cls
 ·obtain⟨D,e,o⟩:=uk (hc d hd);exact⟨D,G d _ e⟩
 ·obtain⟨C',e1,_⟩:=uk (hr c hcm);obtain⟨D',e2,_⟩:=uk (hc d hd);cases un c C C' e1 mC;cases un d D D' e2 mD;have q:=h c hcm d hd;unfold z3G at q;rw[e1,e2]at q;simpa using q
 ·obtain⟨D,e,o⟩:=uk (hr c hcm);cases un c C D e m;exact o.val
theorem zgs{x y:Str}(hx:z4b K x=true)(hy:z4b K y=true)(h:(z3G K x y).map (·.1)=some (some true)):zjq K mg x y:=by
 obtain⟨C,e1,o1⟩:=uk hx;obtain⟨D,e2,o2⟩:=uk hy;refine⟨C,D,G x _ e1,G y _ e2,o1.exc,o2.exc,λh₀ X=>?_⟩;unfold z3G at h;rw[e1,e2]at h;have hm:W.mroIn K C (.ref D)=some true:=by simpa using h
 obtain⟨bm,N,nm,q,bs,hdct,sn,sub,ab,col,dd,k0,k1,k2,k3,k5,mN,hC,_⟩:=zbJ X o1.exc;refine⟨bm,N,nm,q,bs,hdct,sn,sub,ab,col,dd,k0,k1,k2,k3,k5,hC,?_⟩;obtain⟨d',cd',sl',hl⟩:=o1.cls.ty;have h2:=X _ _ hl;rw[hC]at h2;unfold W.mroIn W.clsIn at hm;rw[hl]at hm;simp only[_A]at hm;split at hm;·cases hm
 ·unfold excClassObj at h2;simp only[_D,Obj.mk.injEq,Data.cls.injEq]at h2;obtain⟨_,_,h3,_⟩:=h2;have h4:cd'.mro=Value.ref C::bm:=by rw[<- h3]
  rw[h4]at hm;simpa using hm
end
theorem z37{q:Ask}{w:World}{K:W.Frag}(e:z9P q K=valS q w)(x:Str)(hx:x∈q.xs):z4b K x=true:=z41 (_a0 (λz=>z.2.2.2.2.2.1) e) x hx
theorem zjb{q:Ask}{w:World}{K:W.Frag}(e:z9P q K=valS q w)(x y:Str)(b:Bool)(hx:((x,y),b)∈q.ps):z3G K x y=some (some b,some b):=z41 (_a0 (λz=>z.2.2.2.2.2.2) e) ((x,y),b) hx
theorem zkJ{k:Nat}{A:Around}{e:Option Value}(r:uR k A):uR k (A.mark e):=⟨r.dp,r.un,r.gd⟩
def LeS(f g:FS):Prop:=∀Z s a s',f Z s=.ok a s'->g Z s=.ok a s'
def LeM(M N:Mir):Prop:=∀ds s d s',M ds s=.ok d s'->N ds s=.ok d s'
theorem LeS.rfl{f:FS}:LeS f f:=λ_ _ _ _ h=>h
theorem LeS.no{f g:FS}(h:LeS f g):LeS f (qK g):=λZ s a s' e=>by rw[zfK,h Z s a s' e]
theorem LeS.calm{f:FS}:LeS f (qK f):=LeS.rfl.no
theorem LeS.fNo{g:FS}:LeS fNo g:=λ_ _ _ _ h=>by cases h
theorem LeM.mof{N:List Str}{n:Nat}{f g:FS}(h:LeS f g):LeM (Mof N n f) (jB N n g):=λds s d s' e=>by
 unfold Mof at e;unfold jB;split at e
 ·rename_i hl;rw[_e hl];split at e
  ·rename_i d' s1 e1;rw[h _ _ _ _ e1];exact e
  ·rename_i Z s1 e1;rw[h _ _ _ _ e1];exact e
  ·cases e
 ·cases e
def LeE(f g:FE):Prop:=∀Z s a s',f Z s=.ok a s'->g Z s=.ok a s'
theorem kO{α β:Type}{r:R α}{k:α->Sto->R β}{b:β}{s':Sto}(h:r.bind k=.ok b s'):∃a s1,r=.ok a s1/\k a s1=.ok b s':=by cases r with
 | ok a s=>exact⟨a,s,Eq.refl _,h⟩ | ex c s=>cases h | no=>cases h
theorem LeS.seq{f f' g g':FS}(h:LeS f f')(h2:LeS g g'):LeS (zF f g) (zF f' g'):=λZ s a s' e=>by
 obtain⟨fl,s1,e1,e2⟩:=kO e;show (f' Z s).bind _=_;rw[h _ _ _ _ e1,Rb];cases fl with
 | nx Z'=>exact h2 _ _ _ _ e2 | _=>exact e2
theorem LeS.drop{f f':FE}(h:LeE f f'):LeS (wy f) (wy f'):=λZ s a s' e=>by
 obtain⟨d,s1,e1,e2⟩:=kO e;show (f' Z s).bind _=_;rw[h _ _ _ _ e1,Rb];exact e2
theorem LeS.set{i:Nat}{f f':FE}(h:LeE f f'):LeS (wj i f) (wj i f'):=λZ s a s' e=>by
 obtain⟨d,s1,e1,e2⟩:=kO e;show (f' Z s).bind _=_;rw[h _ _ _ _ e1,Rb];exact e2
theorem LeE.call{M M':Mir}{f:FA}(h:LeM M M'):LeE (zi M f) (zi M' f):=λZ s a s' e=>by
 obtain⟨d,s1,e1,e2⟩:=kO e;show (f Z s).bind _=_;rw[e1,Rb];exact h _ _ _ _ e2
theorem LeS.if_{t:FT}{f f' g g':FS}(h:LeS f f')(h2:LeS g g'):LeS (fIf t f g) (fIf t f' g'):=λZ s a s' e=>by
 obtain⟨d,s1,e1,e2⟩:=kO e;show (t Z s).bind _=_;rw[e1,Rb];cases d with
 | true=>exact h _ _ _ _ e2 | false=>exact h2 _ _ _ _ e2
theorem LeM.ok{M N:Mir}(h:LeM M N){ds:List D}{s s':Sto}{d:D}(e:M ds s=.ok d s'):N ds s=.ok d s':=h ds s d s' e
noncomputable def zah(cs:List Str)(fb:FS)(j:Nat)(fh:FS):FS:=λZ s=>match fb Z s with
 | .ex c s1=>if c∈cs then (match fh ((List.replicate Z.length none).set j (some (.exc c))) s1 with
  | .ok (.rt d) s2=>.ok (.rt d) s2 | _=>.no) else .no | .ok (.rt d) s1=>.ok (.rt d) s1 | .ok (.nx Z') s1=>.ok (.nx Z') s1 | _=>.no
section
variable {X:Cx}{E:XK}{pos hpos np:Pos}
theorem zh4 {cs:List Str} {y n:Str} {body:List Stmt} {b₀:Stmt} {suite:List Stmt} {j:Nat} {fb fh:FS} (hst:X.stack=X.env::X.outer) (hfr:X.env.frame=some X.env.locals) (hex:X.ex=[]) (hcs:∀c∈cs,zjq X.K X.mg c y) (hg:Gl X y) (hN:X.N.Nodup) (hj:X.N[j]? = some n) (hloc:X.env.scope.names.lookup n=some .local) (hb:∀(pn:List (Addr×Obj)) (xe:Value->Shared->Prop) (E1:XK),Passes (CX1 X.prog X.w) (Cx.at_ X pn xe) E1->RSs (Cx.at_ X pn xe) E1 body fb) (hh:∀(e:Addr) (pn:List (Addr×Obj)),RSs (Cx.mk_ X e pn) E0 (b₀::suite) fh) (hdb:(y==("__debug__":Str))=false:=by decide): RS X E (.Try body [.ExceptHandler (some (.Name y np)) (some n) (b₀::suite) hpos] [] [] pos) (zah cs fb j fh):=by
 intro pins s O H D I hw;obtain⟨Y,Z,st0,r,en,h⟩:=hw;have hlen:Z.length=X.N.length:=by rw[en.len,I.len]
 refine wpAny_Try_except ?_;generalize hEb:(λ(e:Value) (s₁:Shared)=>wpAny (model X.prog X.w) X.A (noteFrame e X.env) (λ_ s₂=>wpAny (model X.prog X.w) X.A (setFlight e none) (λ_ s₃=>wpAny (model X.prog X.w) X.A (handleBy e X.env [.ExceptHandler (some (.Name y np)) (some n) (b₀::suite) hpos]) (SP X pins D) X.xe s₃) X.xe s₂) X.xe s₁)=Eb;let E1:XK:=λv _ H'=>∃c Y' st' C d s2,v=.ref C/\c∈cs/\X.mg c=some (.ref C)/\xx (gm X) H Y H' Y' st'/\fh ((List.replicate Z.length none).set j (some (.exc c))) st'=.ok (.rt d) s2/\okR (gm X) E H Y (FlD (gm X)) (.ok (.rt d) s2) (z3k D);have pass:Passes (CX1 X.prog X.w) (Cx.at_ X (X.pn++pins) Eb) E1:=by
  intro pins' O' H1 s1 e s' I1 hcx;obtain⟨C,ea,H',he,fl,hE⟩:=hcx;subst he;obtain⟨c,Y',st',C',d,s2,eC,hcm,hmc,stp,efh,ok⟩:=hE;cases eC;have J1:=I1.of_at;obtain⟨B,a0,fw,cov⟩:=fl.fly;have fw:Heap.FlyingW B (X.env::X.outer) ea (.ref C) a0 s'.heap:=by rw[<- hst];exact fw
  have un:Un (frs (X.env::X.outer)) [] H1 H' s1.heap s'.heap:=by rw[<- hst];exact fl.un
  have cov:∀b o,s'.heap.get? b=some o->(H' b≠none\/((∃o',s1.heap.get? b=some o')/\b∉frs (X.env::X.outer)))->B.get? b=some o:=by rw[<- hst];exact cov
  have land:∀h5,Heap.FlyingW B (X.env::X.outer) ea (.ref C) a0 h5->s'.heap.UpToSlots h5->L2.Inv X pins O' (upd H' ea (zcI C ea)) {s' with heap:=h5}/\H' ea=none/\∃oe,h5.get? ea=some oe/\oe.cls=.ref C:=λh5 fw5 sm=>by
   obtain⟨_,hn,un5,hok5,oe⟩:=Fly.land un fl.hok fw cov fw5 sm;exact⟨J1.call' (s':={s' with heap:=h5}) (ch:=[]) fl.os (by rw[hst];exact un5) hok5 fl.bare (λb z=>absurd z (by simp)),hn,oe⟩
  rw[<- hEb];have hfrm:X.A.frames=some (X.env::X.outer):=by rw[<- hst];exact J1.ok.frames
  show wpAny (model X.prog X.w) X.A (noteFrame (.ref ea) X.env) _ _ s';refine wpAny_looks_onW (base:=B) hfrm hfr fw λh4 held sm4=>?_;refine wpAny_landsW held λh5 fw5 sm5=>?_;obtain⟨I5,hn5,oe5⟩:=land h5 fw5 (sm4.trans sm5);obtain⟨C2,D2,hm2,hmy,q1,q2,hsub⟩:=hcs c hcm;rw[hmc]at hm2;cases hm2;refine z1Q (C:=C) (D:=D2) (z0D (X:=Cx.mk_ X ea (X.pn++pins)) I5.mk_ hg hmy ⟨rfl,?_,?_,oe5,?_⟩ hdb)
  ·obtain⟨bm,N,nm,q,bs,hdct,sn,sub,ab,col,dd,k0,k1,k2,k3,k5,hC,hs⟩:=hsub _ I5.kIn;exact⟨bm,N,nm,q,bs,hdct,sn,sub,ab,col,dd,k0,k1,k2,k3,k5,_,hC,hs⟩
  ·obtain⟨bm,N,nm,q,bs,hdct,sn,sub,ab,col,dd,k0,k1,k2,k3,k5,mN,hC,hNs,hni,T⟩:=zbJ I5.kIn q2;exact⟨bm,N,nm,q,bs,hdct,sn,sub,ab,col,dd,k0,k1,k2,k3,k5,_,hC,T.hasType _bw.hasBase⟩
  ·refine lands_againW fw5 λh6 fw6 sm6=>?_;obtain⟨I6,hn6,oe6⟩:=land h6 fw6 ((sm4.trans sm5).trans sm6);refine jx (X:=Cx.mk_ X ea (X.pn++pins)) I6.mk_ hN hj (.inl hloc) (show yr (.ref ea) (.ref ea) from rfl) (λs7 I7=>?_) (.inr hloc);have stl:xx (gm X) H' Y' (upd H' ea (zcI C ea)) Y' st':=xx.lay stp.rep hn6 (by intro vs z;cases z);have stl2:=stp.trans stl;have enh:ua (gm X) (upd H' ea (zcI C ea)) Y' ((List.replicate Z.length none).set j (some (.exc c))) (O'.set j (some (.ref ea))):=by
    refine⟨by rw[_bK,_b2,_bK,hlen];exact J1.len.symm,λi d' hi=>?_⟩;by_cases z:j=i
    ·subst z;have hjl:j<(List.replicate Z.length (none:Option Dd.D)).length:=by
      have:=(_c.mp hi).1;simpa using this
     rw[_L hjl]at hi;cases hi;refine⟨.ref ea,by rw[_L (by rw[J1.len,<- hlen];simpa using hjl)],?_⟩;simp only[Den];exact⟨ea,C,rfl,hmc,zN⟩
    ·rw[_B z,_a9]at hi;split at hi<;>cases hi
   have run:=hh ea (X.pn++pins) [] s7 (O'.set j (some (.ref ea))) (upd H' ea (zcI C ea)) {nx:=λ_ _=>False,rt:=D.rt} I7 ⟨Y',_,st',stl2.rep,enh,by
    rw[efh];intro fv H2 Y2 stp2 fd;cases fv with
    | rt v=>exact ok (.rt v) H2 Y2 (stl2.trans stp2) fd | _=>exact (show False from fd).elim⟩;refine _r run (λfl s8 q8=>?_) λ_ _ z=>z.elim;cases fl with
   | ret u=>
    obtain⟨v,O8,H8,I8,rv,q8⟩:=q8;have J8:=I8.of_mk J1.ok;obtain⟨m,hn,_⟩:=J8.loc;refine wpAny_nameGoes (env:=X.env) hloc hn (by rw[J1.ok.kind];rfl) λh9 m9 hn9 sb9=>?_;exact⟨v,_,H8,J8.locals hn9 sb9,rv,q8⟩ | next=>obtain⟨_,_,_,z⟩:=q8;exact z.elim | brk=>obtain⟨_,_,_,z⟩:=q8;exact z.elim | cont=>obtain⟨_,_,_,z⟩:=q8;exact z.elim
 have run:=hb (X.pn++pins) Eb E1 pass [] s O H {nx:=D.nx,rt:=D.rt} I.at_ ⟨Y,Z,st0,r,en,?_⟩
 ·refine _r run (λfl s1 q1=>?_) λ_ _ z=>z;cases fl with
  | ret u=>
   obtain⟨v,O8,H8,I8,rv,q8⟩:=q1;exact⟨v,O8,H8,I8.of_at,rv,q8⟩ | next=>
   obtain⟨O8,H8,I8,q8⟩:=q1;exact (show wpAny (model X.prog X.w) X.A (pure Flow.next) (SP X pins D) X.xe s1 from _b ⟨O8,H8,I8.of_at,q8⟩) | brk=>obtain⟨_,_,_,z⟩:=q1;exact z.elim | cont=>obtain⟨_,_,_,z⟩:=q1;exact z.elim
 ·unfold zah at h;cases e:fb Z st0 with
  | no=>rw[e]at h;exact h.elim | ok fl s1=>
   rw[e]at h;cases fl with
   | rt d=>
    intro fv H2 Y2 stp2 fd;cases fv with
    | rt v=>exact h (.rt v) H2 Y2 stp2 fd | _=>exact (show False from fd).elim
   | nx Z'=>
    intro fv H2 Y2 stp2 fd;cases fv with
    | nx v=>exact h (.nx v) H2 Y2 stp2 fd | _=>exact (show False from fd).elim
   | _=>exact h.elim
  | ex c s1=>
   rw[e]at h;intro H' Y' C stp hmc;simp only at h;split at h
   ·rename_i hcm;cases e2:fh ((List.replicate Z.length none).set j (some (.exc c))) s1 with
    | no=>rw[e2]at h;exact h.elim | ex _ _=>rw[e2]at h;exact h.elim | ok fl s2=>
     rw[e2]at h;cases fl with
     | rt d=>exact⟨c,Y',s1,C,d,s2,rfl,hcm,hmc,stp,e2,h⟩ | _=>exact h.elim
   ·exact h.elim
end
section
variable {X:Cx}{E:XK}{o e:Expr}{pos:Pos}
noncomputable def zc5(fo fv:FE):FE:=λZ s=>(fo Z s).bind λo s1=>match o with
 | .loc l=>(fv Z s1).bind λd s2=>match (s2[l]?).bind bools,d with
  | some ns,.bl k=>.ok (.int (ns.count k:Nat)) s2 | _,_=>.no
 | _=>.no
theorem zbq{apos:Pos}{fo fv:FE}(ho:RE X E o fo)(hv:RE X E e fv)(hbase:attributeBase o "count" X.env (eval o X.env)=eval o X.env:=by rfl) (hfew:((backTo pos (starEach [e] X.env)).all (λx=>!x.1)&&(backToKw pos (keywordEach [] X.env)).all (λx=>x.1.isSome) && decide ([e].length+([]:List Keyword).length+(if ([]:List Keyword).isEmpty then 0 else 1)<30))=true:=by rfl) (hline:(apos.endLine==pos.line)=true:=by rfl)(hs:starEach [e] X.env=(false,eval e X.env)::starEach [] X.env:=by rfl)(hplain:(backTo pos (starEach [] X.env)).any (·.1)=false:=by rfl): RE X E (.Call (.Attribute o "count" apos) [e] [] pos) (zc5 fo fv):= zL (zgp _bR PySem.F.slot_list_count PySem.F.type_list_count z7A ho (wS hv kY hs) hbase hfew hline hs hplain) λO H Q ⟨Y,Z,s,r,en,h⟩=>by
  unfold zc5 at h;refine⟨Y,Z,s,r,en,(okR.bind (Dn:=Den (gm X)) h).imp λov H1 ⟨Y1,s1,od,stp,dn,h1⟩=>?_⟩;cases od with
  | loc l=>
   simp only at h1;have hty:tyV X.K "list" ov H1:=by
    simp only[Den]at dn;obtain⟨a,rfl,e1,vs,e2⟩:=dn;exact .inl ⟨rfl,vs,SqL.of e2⟩
   refine⟨hty,⟨Y1,Z,s1,stp.rep,en.mono stp,(okR.bind (Dn:=Den (gm X)) h1).imp λv H2 ⟨Y2,s2,d,stp2,dn2,h2⟩=>?_⟩⟩;split at h2
   ·rename_i ns k ei;cases jQ dn2;have dov:=dn.mono stp2;cases ex:s2[l]? with
    | none=>rw[ex]at ei;cases ei | some xs=>
     rw[ex]at ei;have ei:bools xs=some ns:=ei;obtain⟨a,vs,rfl,rd,e2⟩:=zG (d:=.loc l) stp2.rep ex dov;rw[z1u ei]at e2;cases z1q e2;exact⟨a,ns,k,rfl,rfl,rd,h2.here stp2.rep yq⟩
   ·exact h2.elim | _=>exact h1.elim
noncomputable def z7M(fo fv:FE):FE:=λZ s=>(fo Z s).bind λo s1=>match o with
 | .loc l=>(fv Z s1).bind λd s2=>match (s2[l]?).bind bools,d with
  | some ns,.bl k=>if k∈ns/\ns.length<2 ^ 62 then .ok (.int (ns.idxOf k:Nat)) s2 else .no | _,_=>.no
 | _=>.no
theorem zag{apos:Pos}{fo fv:FE}(ho:RE X E o fo)(hv:RE X E e fv)(hbase:attributeBase o "index" X.env (eval o X.env)=eval o X.env:=by rfl) (hfew:((backTo pos (starEach [e] X.env)).all (λx=>!x.1)&&(backToKw pos (keywordEach [] X.env)).all (λx=>x.1.isSome) && decide ([e].length+([]:List Keyword).length+(if ([]:List Keyword).isEmpty then 0 else 1)<30))=true:=by rfl) (hline:(apos.endLine==pos.line)=true:=by rfl)(hs:starEach [e] X.env=(false,eval e X.env)::starEach [] X.env:=by rfl)(hplain:(backTo pos (starEach [] X.env)).any (·.1)=false:=by rfl): RE X E (.Call (.Attribute o "index" apos) [e] [] pos) (z7M fo fv):= zL (zgp _bR PySem.F.slot_list_index PySem.F.type_list_index z7c ho (wS hv kY hs) hbase hfew hline hs hplain) λO H Q ⟨Y,Z,s,r,en,h⟩=>by
  unfold z7M at h;refine⟨Y,Z,s,r,en,(okR.bind (Dn:=Den (gm X)) h).imp λov H1 ⟨Y1,s1,od,stp,dn,h1⟩=>?_⟩;cases od with
  | loc l=>
   simp only at h1;have hty:tyV X.K "list" ov H1:=by
    simp only[Den]at dn;obtain⟨a,rfl,e1,vs,e2⟩:=dn;exact .inl ⟨rfl,vs,SqL.of e2⟩
   refine⟨hty,⟨Y1,Z,s1,stp.rep,en.mono stp,(okR.bind (Dn:=Den (gm X)) h1).imp λv H2 ⟨Y2,s2,d,stp2,dn2,h2⟩=>?_⟩⟩;split at h2
   ·rename_i ns k ei;split at h2
    ·rename_i hk;cases jQ dn2;have dov:=dn.mono stp2;cases ex:s2[l]? with
     | none=>rw[ex]at ei;cases ei | some xs=>
      rw[ex]at ei;have ei:bools xs=some ns:=ei;obtain⟨a,vs,rfl,rd,e2⟩:=zG (d:=.loc l) stp2.rep ex dov;rw[z1u ei]at e2;cases z1q e2;exact⟨a,ns,k,rfl,rfl,rd,hk.1,hk.2,h2.here stp2.rep yq⟩
    ·exact h2.elim
   ·exact h2.elim | _=>exact h1.elim
end
end Dd
namespace PySem
end PySem
namespace L2
end L2
namespace Dd
open L2
open PySem.W
noncomputable def kev{α:Type}(n:Nat)(lt:Nat->Nat->Bool):KasT α->Option α
 | .ret a=>some a | .ask i j k=>if i<n/\j<n then kev n lt (k (lt i j)) else none
theorem zbC{α:Type}{n:Nat}{lt:Nat->Nat->Bool}{cmp:Nat->Nat->(Bool->Shared->Prop)->Shared->Prop}{Q:α->Shared->Prop}{s:Shared}(hc:∀i j C,i<n->j<n->C (lt i j) s->cmp i j C s): ∀(t:KasT α)(a:α),kev n lt t=some a->Q a s->t.kasWp cmp Q s
 | .ret a,b,e,h=>by
  simp only[kev,_D]at e;subst e;exact h | .ask i j k,b,e,h=>by
  unfold kev at e;split at e
  ·rename_i hij;exact hc i j _ hij.1 hij.2 (zbC hc (k (lt i j)) b e h)
  ·cases e
section
variable {prog:Program}{w:World}{A:Around}{E:Value->Shared->Prop}{s:Shared}
def z8Y(vs:List Value)(p:Array Nat):Array Value:=List.toArray (p.toList.map λi=>vs.getD i Value.none)
end
section
variable {X:Cx}{E:XK}
theorem z5Q:∀{ys:List V}{its:List Value},yw ys its->∀i,i<ys.length->yr (ys.getD i .non) (its.getD i .none)
 | [],_,.nil,i,hi=>by simp at hi | y::ys,_,.cons r rs,0,_=>by simpa using r | y::ys,_,.cons r rs,i+1,hi=>by simpa using z5Q rs i (by simpa using hi)
theorem z7Q{ys:List V}{its:List Value}(h:yw ys its):∀(p:List Nat),(∀i∈p,i<ys.length)->yw (p.map λi=>ys.getD i .non) (p.map λi=>its.getD i .none)
 | [],_=>.nil | i::p,hp=>.cons (z5Q h i (hp i (.head _))) (z7Q h p λj hj=>hp j (.tail _ hj))
theorem z6K{mg:Gm}{H:Hp}{Y:List Addr}:∀{xs:List D}{vs:List V},zu mg H Y xs vs->∀i,i<xs.length->Den mg H Y (xs.getD i .non) (vs.getD i .non)
 | [],_,_,i,hi=>by simp at hi | x::xs,vs,h,i,hi=>by
  simp only[zu]at h;obtain⟨v,ws,rfl,h1,h2⟩:=h;cases i with
  | zero=>simpa using h1 | succ i=>simpa using z6K h2 i (by simpa using hi)
theorem z8n{mg:Gm}{H:Hp}{Y:List Addr}{xs:List D}{vs:List V}(h:zu mg H Y xs vs):∀(p:List Nat),(∀i∈p,i<xs.length)->zu mg H Y (p.map λi=>xs.getD i .non) (p.map λi=>vs.getD i .non)
 | [],_=>by simp[zu] | i::p,hp=>by
  simp only[_v,zu];exact⟨_,_,rfl,z6K h i (hp i (.head _)),z8n h p λj hj=>hp j (.tail _ hj)⟩
end
end Dd
namespace L2
open PySem.Builtin.Str
section
variable {X:Cx}{o e:Expr}{to te:TE}{apos cpos pos:Pos}
theorem zcH(ho:PE X o to)(hbase:attributeBase o "upper" X.env (eval o X.env)=eval o X.env:=by rfl)(hline:(apos.endLine==cpos.line)=true:=by rfl): PE X (.Call (.Attribute o "upper" apos) [] [] cpos) (λO H Q=>to O H λx H1=>∃z,x=.str z/\tooLong (Txt.upper z).length=false/\Q (.str (Txt.upper z)) H1):=by
 intro pins s O H Q I h;refine Call_method0 hbase hline (thn (ho pins s O H _ I h) λv s1 ⟨x,H1,I1,r1,z,ez,hz,q⟩=>?_);subst ez;obtain⟨t,rfl⟩:=r1;exact SB.upper hz ⟨.str (Txt.upper z),H1,I1.tok _,⟨_,rfl⟩,q⟩
def zlJ:V->Option Int->Option Int->Hp->VK->Prop:=λx lo hi H Q=>∃z i,x=.str z/\lo=some i/\hi=none/\z.length<=sizeLine/\Q (.str (Txt.slice z (some i) none)) H
theorem zjg:SlR X zlJ:=by
 intro pins s O H x v vl vu lo hi sl Q I rx hs pl pu h;obtain⟨z,i,rfl,rfl,rfl,hz,q⟩:=h;obtain⟨t,rfl⟩:=rx;obtain⟨ob,ho,hc,hd⟩:=hs;cases pl with | int i ti=> cases pu with | none=>
   refine⟨"str",_,PySem.F.slot_str_getitem.lookup,typeIs_str _ _ _,wpAny_getItem_str_slice (l:=some (i,ti)) (u:=none) (st:=none) ⟨ob,ho,hc,hd⟩ rfl (post_val_or_str ⟨_S (Txt.slice_le z _ _) hz,λt' k=>?_⟩)⟩;exact⟨.str (Txt.slice z (some i) none),H,I.tok _,⟨_,rfl⟩,q⟩
end
end L2
namespace Dd
open L2 PySem.Builtin.Str
section
variable {X:Cx}{E:XK}{o e v1 v2:Expr}{apos cpos dpos p1 p2 pos:Pos}{k1 k2:Str}{j1 j2:Nat}
theorem z7C{mg:Gm}{H:Hp}{Y:List Addr}{z:Str}:Den mg H Y (.str z) (.str z):=by simp[Den]
def zby(f:FE):FE:=λZ s=>(f Z s).bind λd s1=>match d with
 | .str z=>if tooLong (Txt.upper z).length=false then .ok (.str (Txt.upper z)) s1 else .no | _=>.no
theorem zeU{f:FE}(ho:RE X E o f)(hbase:attributeBase o "upper" X.env (eval o X.env)=eval o X.env:=by rfl)(hline:(apos.endLine==cpos.line)=true:=by rfl): RE X E (.Call (.Attribute o "upper" apos) [] [] cpos) (zby f):=zL (zcH ho hbase hline) λO H Q ⟨Y,Z,s,r,en,h⟩=>by
 refine zO (k:=λZ d s1=>match d with | .str z=>if tooLong (Txt.upper z).length=false then R.ok (D.str (Txt.upper z)) s1 else .no | _=>.no) r en h _ λv H1 Y1 s1 d r1 en1 dn stp h1=>?_;cases d with
 | str z=>
  cases qO dn;simp only at h1;split at h1
  ·rename_i hz;exact⟨z,rfl,hz,h1.here r1 z7C⟩
  ·exact h1.elim | _=>exact h1.elim
def zl1(f:FE)(fl:FO):FE:=λZ s=>(f Z s).bind λd s1=>(fl Z s1).bind λlo s2=>match d,lo with
 | .str z,some i=>if z.length<=cap then .ok (.str (Txt.slice z (some i) none)) s2 else .no | _,_=>.no
theorem zcr{lo:Option Expr}{p2:Pos}{fe:FE}{fl:FO}(he:RE X E e fe)(hl:RO X E lo fl):RE X E (.Subscript e (.Slice lo none none p2) pos) (zl1 fe fl):= zL (z8k zjg he hl zaN) λO H Q ⟨Y,Z,s,r,en,h⟩=>by
  refine zO (k:=λZ d s1=>(fl Z s1).bind λlo s2=>match d,lo with | .str z,some i=>if z.length<=cap then R.ok (D.str (Txt.slice z (some i) none)) s2 else .no | _,_=>.no) r en h _ λv H1 Y1 s1 d r1 en1 dn stp h1=>?_;refine z7n (k:=λZ lo s2=>match d,lo with | .str z,some i=>if z.length<=cap then R.ok (D.str (Txt.slice z (some i) none)) s2 else .no | _,_=>.no) r1 en1 h1 _ λlo H2 Y2 s2 r2 en2 stp2 h2=>?_;cases d with
  | str z=>
   cases qO dn;cases lo with
   | none=>exact h2.elim | some i=>
    simp only at h2;split at h2
    ·rename_i hz;exact⟨z,i,rfl,rfl,rfl,ui hz,h2.here r2 z7C⟩
    ·exact h2.elim
  | _=>cases lo<;>exact h2.elim
noncomputable def zdH:D->D->Sto->R D
 | .str a,.str b,s=>if a.length+b.length<=cap then .ok (.str (a++b)) s else .no | _,_,_=>.no
theorem zhe:∃r,OpR X (binaryOp .Add) r/\OpF X E r zdH:=by
 refine⟨_,z93,?_⟩;intro H Y s d1 d2 v1 v2 Q r h1 h2 h;unfold zdH at h;split at h
 ·rename_i a b;cases qO h1;cases qO h2;split at h
  ·rename_i hl;exact⟨a,b,rfl,rfl,ui hl,h.here r z7C⟩
  ·exact h.elim
 ·exact h.elim
end
end Dd
namespace Dd
open L2
section
variable {X:Cx}{E:XK}{es:List Expr}{fa:FE}{fr:FA}
theorem aN{x:Str}{p:Pos}(ha:RE X E (.Name x p) fa)(hr:RA X E es fr):RA X E ((.Name x p)::es) (za fa fr):=uN ha hr (zC ..)
theorem aK{c:Const}{j:Nat}{p:Pos}(ha:RE X E (.Constant c j p) fa)(hr:RA X E es fr):RA X E ((.Constant c j p)::es) (za fa fr):=uN ha hr (z3X ..)
theorem aQ{g:Expr}{xs:List Expr}{ks:List Keyword}{p:Pos}(ha:RE X E (.Call g xs ks p) fa)(hr:RA X E es fr):RA X E ((.Call g xs ks p)::es) (za fa fr):=uN ha hr (z1E ..)
theorem aT{xs:List Expr}{k:Nat}{p:Pos}(ha:RE X E (.Tuple xs k p) fa)(hr:RA X E es fr):RA X E ((.Tuple xs k p)::es) (za fa fr):=uN ha hr (zcQ ..)
theorem aS{a b:Expr}{p:Pos}(ha:RE X E (.Subscript a b p) fa)(hr:RA X E es fr):RA X E ((.Subscript a b p)::es) (za fa fr):=uN ha hr (z8e ..)
theorem aB{a b:Expr}{o:Operator}{p:Pos}(ha:RE X E (.BinOp a o b p) fa)(hr:RA X E es fr):RA X E ((.BinOp a o b p)::es) (za fa fr):=uN ha hr (z4A ..)
theorem aL{xs:List Expr}{p:Pos}(ha:RE X E (.List xs p) fa)(hr:RA X E es fr):RA X E ((.List xs p)::es) (za fa fr):=uN ha hr (zdg ..)
theorem aO{a:Expr}{g:List Comprehension}{sc:Scope}{p:Pos}(ha:RE X E (.ListComp a g sc p) fa)(hr:RA X E es fr):RA X E ((.ListComp a g sc p)::es) (za fa fr):=uN ha hr (vO ..)
theorem aU{o:UnaryOp}{a:Expr}{p:Pos}(ha:RE X E (.UnaryOp o a p) fa)(hr:RA X E es fr):RA X E ((.UnaryOp o a p)::es) (za fa fr):=uN ha hr (zg4 ..)
theorem yF {e:Expr} {pos:Pos} {CX:CXT} {x:Str} {p:Pos} {n k:Nat} {M:Mir} {f:FA} (F:Has X.prog X.w X.K X.mg X.base CX x n M) (hr:z0e k X.A) (hx:Passes CX X E) (ha:RA X E (e::es) f) (hk:n<=k:=by decide) (hg:Gl X x:=by rfl) (hdb:(x==("__debug__":Str))=false:=by decide) (he:starEach (e::es) X.env=(false,eval e X.env)::starEach es X.env:=by rfl) (hpl:(backTo pos (starEach es X.env)).any (·.1)=false:=by rfl):RE X E (.Call (.Name x p) (e::es) [] pos) (zi M f):=zj8 F (hr.mono hk) hx hg ha hdb he hpl
end
section
variable {q:Ask}{w:World}{K:W.Frag}{h:Heap}{mg:Str->Option Value}
theorem zR(X:K.In h)(G:h.Ns mainGlobals mg)(e:z9P q K=valS q w)(i:Nat){x:Str}{st:Stmt}(hx:q.fs[i]? = some (x,st)):∃f fd,mg x=some (.ref f)/\Fun K x x st f fd:=let ⟨f,fd,a,F⟩:=zkS e x st (_C hx);⟨f,fd,W.mg_of X G a,F⟩
theorem vI(X:K.In h)(G:h.Ns mainGlobals mg)(e:z9P q K=valS q w)(i:Nat){x:Str}(hx:q.bs[i]? = some x):mg x=none:=W.mg_none_of X G (zk6 e x (_C hx))
theorem z20(X:K.In h)(G:h.Ns mainGlobals mg)(e:z9P q K=valS q w)(i:Nat){x:Str}{c:Int}(hx:q.cs[i]? = some (x,c)):∃t,mg x=some (.int c t):=let ⟨t,z⟩:=zkZ e x c (_C hx);⟨t,W.mg_of X G z⟩
end
open PySem.W
end Dd
namespace Dd
open L2
section
variable {X:Cx}{E:XK}{e:Expr}{pos pos':Pos}
noncomputable def zh3(i:Nat)(f:FE):FS:=λZ s=>match Z[i]? with
 | some (some (.int a))=>(f Z s).bind λd s1=>match d with | .int b=>.ok (.nx (Z.set i (some (.int (a+b))))) s1 | _=>.no
 | _=>.no
theorem zkL(i:Nat){x:Str}{f:FE}(hN:X.N.Nodup)(he:RE X E e f)(hi:X.N[i]? = some x:=by rfl)(hx:Loc X.env.scope x:=by first | exact Or.inl rfl | exact Or.inr rfl)(hf:X.fn x=true\/X.env.scope.names.lookup x=some .local:=by first | exact .inl rfl | exact .inr rfl | assumption): RS X E (.AugAssign (.Name x pos') .Add e pos) (zh3 i f):= vA (zjk hN hi hx he zj2 hf) λD O H ⟨Y,Z,s,r,en,h⟩=>by
  unfold zh3 at h;split at h
  ·rename_i a ea;obtain⟨v,h1,h2⟩:=en.at_ i _ ea;cases zT h2;refine⟨_,h1,?_⟩;refine zO (k:=λZ d s1=>match d with | .int b=>R.ok (Fl.nx (Z.set i (some (.int (a+b))))) s1 | _=>.no) r en h _ λv H1 Y1 s1 d r1 en1 dn stp h3=>?_;cases d with
   | int b=>
    cases zT dn;refine⟨_,_,rfl,rfl,?_⟩;exact okR.here (b:=FlV.nx (O.set i (some (.int (a+b))))) h3 r1 (en1.set (by simp[Den]) i) | _=>exact h3.elim
  ·exact h.elim
@[simp] theorem zle {i:Nat}{f:FE}{Z:Ev}{s:Sto}{a b:Int}{s1:Sto}(h:Z[i]? = some (some (.int a)))(hf:f Z s=.ok (.int b) s1):zh3 i f Z s=.ok (.nx (Z.set i (some (.int (a+b))))) s1:=by simp only[zh3,h,hf,Rb]
end
open PySem.W
end Dd
namespace Dd
open L2
end Dd
namespace L2
theorem z4S(its:List Value):slicePick its.toArray none none (some (-1))=its.reverse.toArray:=by
 unfold slicePick;have e:sliceRange (sliceBounds none none (some (-1)) its.toArray.size).1 (sliceBounds none none (some (-1)) its.toArray.size).2.1 (sliceBounds none none (some (-1)) its.toArray.size).2.2=(List.range its.length).map λk=>its.length-1-k:=by
  simp only[sliceBounds,_bc,_k];unfold sliceRange;have c:(if (-1:Int) > 0 then (if ((its.length:Int)-1) < -1 then (-1-((its.length:Int)-1)+-1-1) / -1 else 0) else if ((its.length:Int)-1) > -1 then (((its.length:Int)-1) - -1 - -1-1) / - -1 else 0).toNat=its.length:=by
   rw[_j (by decide)];by_cases h:its.length=0;·rw[h];rfl
   ·rw[_e (by omega)];have:(((its.length:Int)-1) - -1 - -1-1) / - -1=its.length:=by simp
    rw[this];simp
  simp only[show ¬ ((-1:Int) > 0) by decide,_aB]at c ⊢;rw[c];refine _a7 λk hk=>?_;have:=_aI.mp hk;omega
 rw[e];congr 1;have key:∀k,k<=its.length->((List.range k).map λk=>its.length-1-k).filterMap (λx=>its.toArray[x]?)=its.reverse.take k:=by
  intro k;induction k with
  | zero=>simp | succ k ih=>
   intro hk;rw[List.range_succ,List.map_append,List.filterMap_append,ih (by omega)];have hl:k<its.reverse.length:=by simp;omega
   rw[List.take_succ,_f hl];have h2:its.length-1-k<its.length:=by omega
   simp[h2]
 rw[key _ (_h _),_bi (by simp)]
section
variable {X:Cx}{e m:Expr}{te:TE}{pos p2:Pos}
def zkM(K:W.Frag)(te:TE):TE:=λO H Q=>te O H λx H1=>∃a xs,x=.ref a/\SqL K H1 a xs/\∀p,H1 p=none->Q (.ref p) (upd H1 p (.lst xs.reverse))
theorem zgH (he:PE X e te) (hm:∀(pins:List (Addr×Obj)) (s:Shared) (O:St) (H:Hp),Inv X pins O H s->wpAny (model X.prog X.w) X.A (evalPart (some m) X.env) (λu s'=>∃t,u=.int (-1) t/\Inv X pins O H s') X.xe s): PE X (.Subscript e (.Slice none none (some m) p2) pos) (zkM X.K te):=by
 intro pins s O H Q I h;refine Subscript_ (thn (he pins s O H _ I h) λv s1 ⟨x,H1,I1,r1,q1⟩=>?_);refine wpAny_Slice ?_;rw[evalPart_none];refine _b (_b ?_);refine thn (hm pins s1 O H1 I1) λu s3 ⟨t,eu,I3⟩=>?_;subst eu;have I4:Inv X pins O H1 {s3 with heap:=s3.heap.push {cls:=.type "slice",data:=.fields #[.none,.none,.int (-1) t]}}:=I3.kept (t':=s3.toks) λb ob q=>_d _ q;obtain⟨a,xs,rfl,hx,q⟩:=q1;cases r1;obtain⟨its,r,ht,hz⟩:=I4.list hx;show wpAny (model X.prog X.w) X.A (subscriptTail e (.Slice none none (some m) p2) (.ref a) (.ref s3.heap.objs.size)) (EP X pins O Q) X.xe {s3 with heap:=s3.heap.push {cls:=.type "slice",data:=.fields #[.none,.none,.int (-1) t]}};refine tail_any (ops:=[.ref a,.ref s3.heap.objs.size]) ht.isList.typeIs _cL.lookup ?_ (by with_unfolding_all rfl);have hlen:=r.length;refine wpAny_getItem_list_slice ht.isList (Heap.IsSliceOf.new ..) .none .none (.int _ _) (by simp) ?_ (by rw[_k]<;>omega);rw[z4S];refine⟨.ref _,_,I4.laid (t':=s3.toks) (o:=.lst xs.reverse) (λb ob q=>_d _ q) (_h _) ?_,rfl,q _ (I4.hok.fresh (_h _))⟩;have hr:yw xs.reverse its.reverse:=by
  clear hx hz ht q I4 hlen;induction r with
  | nil=>exact .nil | cons p _ ih=>rw[_ax,_ax];exact ih.append (.cons p .nil)
 exact⟨by simpa using hz,_,0,hr,_n _ rfl⟩
end
end L2
namespace Dd
open L2
section
variable {X:Cx}{E:XK}{e:Expr}{pos p2 p3 p4:Pos}
def zbk(f:FE):FE:=λZ s=>(f Z s).bind λd s1=>match listOf s1 d with
 | some xs=>.ok (.lst xs.reverse) s1 | none=>.no
theorem zid {j:Nat} {f:FE} (he:RE X E e f):RE X E (.Subscript e (.Slice none none (some (.UnaryOp .USub (.Constant (.int 1) j p3) p4)) p2) pos) (zbk f):= zL (zgH he λpins s O H I=>by
  rw[evalPart_some];refine thn ((ziL (pos:=p4) zeb (zeE (i:=1) (j:=j) (pos:=p3))) pins s O H (λv H1=>v=.int (-1)/\H1=H) I ?_) λu s1 ⟨x,H1,I1,r1,e1,e2⟩=>?_;·exact⟨1,rfl,rfl,rfl⟩
  ·subst e1 e2;obtain⟨t,rfl⟩:=r1;exact⟨t,rfl,I1⟩).freeze λO H Q ⟨Y,Z,s,r,en,h⟩=>by
  unfold zbk at h;refine⟨Y,Z,s,r,en,(okR.bind (Dn:=Den (gm X)) h).imp λv H1 ⟨Y1,s1,d,stp,dn,h1⟩=>?_⟩;split at h1
  ·rename_i xs ex;obtain⟨a,ws,rfl,q1,q2⟩:=zG stp.rep ex dn;exact⟨a,ws,rfl,.inl q1,qD stp.rep h1 q2.rev⟩
  ·exact h1.elim
@[simp] theorem zeS (f:FE)(Z:Ev)(s:Sto):zbk f Z s=(f Z s).bind λd s1=>match listOf s1 d with
 | some xs=>.ok (.lst xs.reverse) s1 | none=>.no:=id rfl
end
noncomputable def z0f:List D->Option (List Key)
 | []=>some [] | .int i::r=>(z0f r).map (Sum.inl i::·) | .str x::r=>(z0f r).map (Sum.inr x::·) | _=>none
noncomputable def vV:D->Option V
 | .int i=>some (.int i) | .bl b=>some (.bl b) | _=>none
def vD:V->D
 | .int i=>.int i | .bl b=>.bl b | _=>.non
noncomputable def encD(kvs:List (List Key×V)):List D:=kvs.map λp=>.tup [.tup (p.1.map z6v),vD p.2]
noncomputable def z7s:List D->Option (List (List Key×V))
 | []=>some [] | .tup [.tup ks,.int i]::r=>(z0f ks).bind λk=>(z7s r).map ((k,V.int i)::·) | .tup [.tup ks,.bl b]::r=>(z0f ks).bind λk=>(z7s r).map ((k,V.bl b)::·) | _=>none
theorem z1B:∀k:List Key,z0f (k.map z6v)=some k
 | []=>rfl | .inl i::k=>by simp[z6v,z0f,z1B k] | .inr x::k=>by simp[z6v,z0f,z1B k]
theorem z4t:∀{ds:List D}{k:List Key},z0f ds=some k->ds=k.map z6v
 | [],k,e=>by simp[z0f]at e;subst e;rfl | .int i::r,k,e=>by
  simp only[z0f,_w]at e;obtain⟨a,h1,rfl⟩:=e;rw[z4t h1];rfl | .str i::r,k,e=>by
  simp only[z0f,_w]at e;obtain⟨a,h1,rfl⟩:=e;rw[z4t h1];rfl | .non::_,_,e=>by simp[z0f]at e | .bl _::_,_,e=>by simp[z0f]at e | .tup _::_,_,e=>by simp[z0f]at e | .lst _::_,_,e=>by simp[z0f]at e | .dct::_,_,e=>by simp[z0f]at e | .loc _::_,_,e=>by simp[z0f]at e | .dlo _::_,_,e=>by simp[z0f]at e | .fn _::_,_,e=>by simp[z0f]at e | .exc _::_,_,e=>by simp[z0f]at e | .scr _::_,_,e=>by simp[z0f]at e
theorem z1w{mg:Gm}{H:Hp}{Y:List Addr}:∀{k:List Key}{vs:List V},zu mg H Y (k.map z6v) vs->vs=k.map kV
 | [],_,h=>by simpa[zu] using h | .inl i::k,vs,h=>by
  simp only[_v,zu]at h;obtain⟨v,r,rfl,h1,h2⟩:=h;rw[zT h1,z1w h2];rfl | .inr i::k,vs,h=>by
  simp only[_v,zu]at h;obtain⟨v,r,rfl,h1,h2⟩:=h;rw[qO h1,z1w h2];rfl
theorem z53{mg:Gm}{H:Hp}{Y:List Addr}:∀(k:List Key),zu mg H Y (k.map z6v) (k.map kV)
 | []=>by simp[zu] | .inl i::k=>by simp only[_v];exact zu.cons (by simp[z6v,kV,Den]) (z53 k) | .inr i::k=>by simp only[_v];exact zu.cons (by simp[z6v,kV,Den]) (z53 k)
theorem zaR{v:V}{x:D}(h:z9B v=some x):x=vD v:=by cases v<;>simp[z9B]at h<;>simp[vD,h]
theorem zih{d:D}{u:V}(h:vV d=some u):z9B u=some d/\vD u=d:=by cases d<;>simp[vV]at h<;>subst h<;>exact⟨rfl,rfl⟩
theorem ziG{mg:Gm}{H:Hp}{Y:List Addr}{d:D}{u v:V}(h:vV d=some u)(dn:Den mg H Y d v):v=u:=by cases d with
 | int i=>simp[vV]at h;subst h;exact zT dn | bl b=>simp[vV]at h;subst h;exact jQ dn | _=>simp[vV]at h
def zbK(kvs:List (List Key×V)):Prop:=∀p∈kvs,(z9B p.2).isSome=true
theorem z2C:∀{xs:List D}{kvs:List (List Key×V)},zdL xs kvs->xs=encD kvs/\zbK kvs/\z7s xs=some kvs
 | [],kvs,h=>by simp only[zdL]at h;subst h;exact⟨rfl,(λp hp=>by simp at hp),rfl⟩ | d::ds,kvs,h=>by
  simp only[zdL]at h;obtain⟨k,v,x,r,rfl,h1,rfl,h2⟩:=h;obtain⟨i1,i2,i3⟩:=z2C h2;refine⟨?_,λp hp=>?_,?_⟩
  ·rw[zaR h1];show _::ds=encD ((k,v)::r);rw[encD,_v];congr 1
  ·rcases _q.mp hp with rfl | hp;·rw[h1];rfl
   ·exact i2 p hp
  ·cases v with
   | int i=>simp only[z9B,_D]at h1;subst h1;simp[z7s,z1B,i3] | bl b=>simp only[z9B,_D]at h1;subst h1;simp[z7s,z1B,i3] | _=>simp[z9B]at h1
theorem z4l:∀{kvs:List (List Key×V)},zbK kvs->zdL (encD kvs) kvs
 | [],_=>rfl | (k,v)::r,h=>by
  obtain⟨x,hx⟩:=_aA.mp (h (k,v) (by simp));refine⟨k,v,x,r,rfl,hx,?_,z4l λp hp=>h p (by simp[hp])⟩;rw[zaR hx]
theorem dec_enc{kvs:List (List Key×V)}(h:zbK kvs):z7s (encD kvs)=some kvs:=(z2C (z4l h)).2.2
theorem Rep.dicU{mg:Gm}{H:Hp}{Y:List Addr}{s:Sto}(r:Rep mg H Y s){l:Nat}{xs:List D}{a:Addr}{kvs:List (List Key×V)}(h:s[l]? = some xs)(ha:Y[l]? = some a)(k:IsC H a)(hd:z7s xs=some kvs):H a=some (.dT kvs)/\zbK kvs/\xs=encD kvs:=by
 rcases r.dic h ha k with⟨kvs',q1,q2⟩ | ⟨o,kvs',ys,q1,rfl,q2⟩
 ·obtain⟨z1,z2,z3⟩:=z2C q2;rw[z3]at hd;cases hd;exact⟨q1,z2,z1⟩
 ·simp[z7s]at hd
theorem z4V:∀k:List Key,D.flat.flats (k.map z6v)=true
 | []=>rfl | .inl i::k=>by simp[z6v,D.flat.flats,D.flat,z4V k] | .inr i::k=>by simp[z6v,D.flat.flats,D.flat,z4V k]
theorem z4c:∀kvs:List (List Key×V),D.flat.flats (encD kvs)=true
 | []=>rfl | (k,v)::r=>by
  have:(vD v).flat=true:=by cases v<;>rfl
  simp only[encD,_v,D.flat.flats,D.flat,z4V,this,Bool.and_true,_cX];exact z4c r
theorem zbK.put{kvs:List (List Key×V)}{k:List Key}{u:V}(h:zbK kvs)(hu:(z9B u).isSome=true):zbK (jI kvs k u):=by
 unfold jI;split
 ·intro p hp;obtain⟨q,hq,rfl⟩:=_J.mp hp;split;·exact hu
  ·exact h q hq
 ·intro p hp;rcases _H.mp hp with hp | hp;·exact h p hp
  ·simp only[_q,_ad,_bx]at hp;subst hp;exact hu
section
variable {X:Cx}{E:XK}{o i e value:Expr}{pos pos':Pos}
def zhV:FE:=λ_ s=>.ok (.dlo s.length) (s++[[]])
theorem zir:RE X E (.Dict [] [] pos) zhV:=zL zdF λO H Q ⟨Y,Z,s,r,en,h⟩ p hp=>by
 refine h _ _ _ (xx.layC r hp (o:=.dT []) (.inr (.inl ⟨[],zN,rfl⟩)) rfl) ?_;simp only[Den];exact⟨p,rfl,by rw[<- r.len];simp,.inl ⟨[],zN⟩⟩
noncomputable def zbD(fo fk fv:FE):FS:=λZ s=>(fv Z s).bind λv s1=>(fo Z s1).bind λo s2=>(fk Z s2).bind λk s3=>match o,k,vV v with
 | .dlo l,.tup ks,some u=>match (s3[l]?).bind z7s,z0f ks with
  | some kvs,some key=>if kvs.length<cap then .ok (.nx Z) (s3.set l (encD (jI kvs key u))) else .no | _,_=>.no
 | _,_,_=>.no
theorem zhq {fo fk fv:FE} (hu:X.A.units+64<cLine) (hv:RE X E value fv) (ho:RE X E o fo) (hi:RE X E i fk) (hs:swapsWith value (some (.Subscript o i pos')) pos.line X.env=pure false:=by rfl): RS X E (.Assign [.Subscript o i pos'] value pos) (zbD fo fk fv):= vA (zeZ (by omega) ho hi hv hs) λD O H ⟨Y,Z,s,r,en,h⟩=>by
  unfold zbD at h;refine zO (k:=λZ v s1=>(fo Z s1).bind λo s2=>(fk Z s2).bind λk s3=>match o,k,vV v with
   | .dlo l,.tup ks,some u=>match (s3[l]?).bind z7s,z0f ks with
    | some kvs,some key=>if kvs.length<cap then R.ok (Fl.nx Z) (s3.set l (encD (jI kvs key u))) else .no | _,_=>.no
   | _,_,_=>.no) r en h _ λv H1 Y1 s1 d r1 en1 dn stp h1=>?_;refine zO (k:=λZ o s2=>(fk Z s2).bind λk s3=>match o,k,vV d with
   | .dlo l,.tup ks,some u=>match (s3[l]?).bind z7s,z0f ks with
    | some kvs,some key=>if kvs.length<cap then R.ok (Fl.nx Z) (s3.set l (encD (jI kvs key u))) else .no | _,_=>.no
   | _,_,_=>.no) r1 en1 h1 _ λv2 H2 Y2 s2 od r2 en2 dn2 stp2 h2=>?_;refine zO (k:=λZ k s3=>match od,k,vV d with
   | .dlo l,.tup ks,some u=>match (s3[l]?).bind z7s,z0f ks with
    | some kvs,some key=>if kvs.length<cap then R.ok (Fl.nx Z) (s3.set l (encD (jI kvs key u))) else .no | _,_=>.no
   | _,_,_=>.no) r2 en2 h2 _ λv3 H3 Y3 s3 kd r3 en3 dn3 stp3 h3=>?_;split at h3
  ·rename_i l ks u eu;split at h3
   ·rename_i kvs key ek edk;split at h3
    ·rename_i hl;have dv:=(dn.mono stp2).mono stp3;obtain rfl:u=v:=(ziG eu dv).symm;have dov:=dn2.mono stp3;simp only[Den]at dov;obtain⟨a,rfl,e1,ka⟩:=dov;obtain⟨xs,ex,edc⟩:=_ap.mp ek;obtain⟨q1,z2,z1⟩:=r3.dicU ex e1 ka edc;rw[z4t edk]at dn3;simp only[Den]at dn3;obtain⟨b,vs,rfl,hb,hd⟩:=dn3;rw[z1w hd]at hb;have ap:=z2.put (k:=key) (u:=u) (by rw[(zih eu).1];rfl);have stp4:=xx.putC (l:=l) (o:=.dT (jI kvs key u)) r3 e1 (.putC ⟨_,q1⟩ (.inl ⟨_,rfl⟩)) (.inr (.inl ⟨_,zN,z4l ap⟩)) (z4c _);exact⟨a,_,rfl,zjj.t q1 hb (_p hl (by decide)),h3 (.nx O) _ _ stp4 (en3.mono stp4)⟩
    ·exact h3.elim
   ·exact h3.elim
  ·exact h3.elim
end
theorem zce {prog:Program} {w:World} {A:Around} {E:Value->Shared->Prop} {s:Shared} {it d:Addr} {i ep:Nat} {o:Obj} {es:Array DictEntry} {e:DictEntry} {Q:Option Value->Shared->Prop} (hit:s.heap.IsKeyIter it d i es.size ep) (hod:s.heap.get? d=some o) (hdd:o.data=.dict es ep) (he:es[i]? = some e) (hQ:∀h':Heap,h'.IsKeyIter it d (i+1) es.size ep->Heap.SameBut it s.heap h'->Q (some e.key) {s with heap:=h'}):wpAny (model prog w) A (pyNext (.ref it)) Q E s:=by
 obtain⟨oi,ho,hc,hd⟩:=id hit;refine _a (_bH (_P hit.typeIs _aE (_T _aE hit.typeIs _cg ?_ (_cc _))));refine _a (_b (_a (_a (_a (_aR hit.typeIs (_b (_a (wpAny_fieldsOf ho hd ?_))))))));have hown:Builtin.Dict_items.ownsTuple "dict_keyiterator"=false:=by decide +kernel
 rw[hown];simp only[_ai,_aB,List.drop_zero];show wpAny _ _ (if (Value.ref d==Value.none)=true then _ else _) _ _ _;rw[_j (by simp)];refine _a (_b (_a (_cQ hod hdd ?_)));rw[_j (by simp)];refine _a (_b (_a (wpAny_dictEpoch hod hdd ?_)));rw[_j (by simp)];refine _b ?_;have hi:(if (i:Int)<0 then none else es[(i:Int).toNat]?)=some e:=by rw[_j (by omega)];simpa using he
 show wpAny _ _ (match (if (i:Int)<0 then none else es[(i:Int).toNat]?) with | some e=>_ | none=>_) _ _ _;rw[hi];refine _a (_a (_aR hit.typeIs (_b ?_)));rw[hown];refine _a (wpAny_isOneOf_keyiter hit.typeIs ?_);refine _a (_cA ho hd (show 1<4 by decide) ?_);have st':∀g:Array Value->Array Value,g #[Value.ref d,Value.int (i:Int) 0,Value.int (es.size:Int) 0,Value.int (ep:Int) 0]=#[Value.ref d,Value.int ((i+1:Nat):Int) 0,Value.int (es.size:Int) 0,Value.int (ep:Int) 0]->(s.heap.update it (Obj.mapFields g)).IsKeyIter it d (i+1) es.size ep:=λg hg=>by
  obtain⟨c0,d0,da,sl⟩:=oi;simp only at hc hd;subst hc hd;refine⟨_,_aV _ ho rfl,rfl,?_⟩;show Data.fields (g _)=_;rw[hg]
 have st2:=st' (λx=>x.setIfInBounds 1 (rawInt ((i:Int)+1))) (by simp[rawInt]);refine _a (_aG ?_);refine _a (wpAny_isOneOf_keyiter st2.typeIs ?_);rw[_e (by decide +kernel)];refine _b (_b ⟨_,rfl,_b ?_⟩);exact hQ _ st2 (_a6 ..)
theorem zeQ {prog:Program} {w:World} {A:Around} {E:Value->Shared->Prop} {s:Shared} {it d:Addr} {i ep:Nat} {o:Obj} {es:Array DictEntry} {Q:Option Value->Shared->Prop} (hh:A.handled=none) (hit:s.heap.IsKeyIter it d i es.size ep) (hod:s.heap.get? d=some o) (hdd:o.data=.dict es ep) (he:es[i]? = none) (hQ:∀h':Heap,Heap.ExtBut it s.heap h'->Q none {s with heap:=h'}):wpAny (model prog w) A (pyNext (.ref it)) Q E s:=by
 obtain⟨oi,ho,hc,hd⟩:=id hit;refine _a (_bH (_P hit.typeIs _aE (_T _aE hit.typeIs _cg ?_ (_cc _))));refine _a (_b (_a (_a (_a (_aR hit.typeIs (_b (_a (wpAny_fieldsOf ho hd ?_))))))));have hown:Builtin.Dict_items.ownsTuple "dict_keyiterator"=false:=by decide +kernel
 rw[hown];simp only[_ai,_aB,List.drop_zero];show wpAny _ _ (if (Value.ref d==Value.none)=true then _ else _) _ _ _;rw[_j (by simp)];refine _a (_b (_a (_cQ hod hdd ?_)));rw[_j (by simp)];refine _a (_b (_a (wpAny_dictEpoch hod hdd ?_)));rw[_j (by simp)];refine _b ?_;have hi:(if (i:Int)<0 then none else es[(i:Int).toNat]?)=none:=by rw[_j (by omega)];simpa using he
 show wpAny _ _ (match (if (i:Int)<0 then none else es[(i:Int).toNat]?) with | some e=>_ | none=>_) _ _ _;rw[hi];refine _a (_a (_aR hit.typeIs (_b ?_)));rw[hown];refine _a (_cA ho hd (show 0<4 by decide) ?_);show wpAny _ _ (newExc (.type "StopIteration") [] >>= _) _ _ _;refine _a ?_;simp only[newExc,newTuple];refine _a (_U ?_ (by size_fits));refine _a (m:=firstArgMember _ _) (wpAny_of_eq (a:=Value.none) (by first | rfl | (simp only[firstArgMember];rfl)) ?_);refine _U ?_ (by size_fits);simp only[raiseNew];refine _a (wpAny_handled ?_);first | rw[show A.in1.handled=none from hh] | rw[hh]
 refine _a (_b (wpAny_throw ?_));refine _a (_bA (T:="StopIteration") (b:=true) ⟨_,_n _ rfl,rfl⟩ isSubtype_stop ?_);exact _b (hQ _ (((_a6 ..).extBut.push _).push _))
section
variable {prog:Program}{w:World}{A:Around}{E:Value->Shared->Prop}{s:Shared}{d:Addr}{es:Array DictEntry}{ep:Nat}
def zjI(h:Heap)(d:Addr)(es:Array DictEntry)(ep:Nat):Prop:=∃o,h.get? d=some o/\o.ExactDict/\o.data=.dict es ep
theorem zjI.typeIs(h:zjI s.heap d es ep):s.TypeIs (.ref d) "dict":=let ⟨o,ho,hc,_⟩:=h;⟨o,ho,hc.1⟩
theorem zdt {Q:Value->Shared->Prop} (hd:(d==sysModules)=false) (hm:zjI s.heap d es ep) (hQ:Q (.ref s.heap.objs.size) {s with heap:=s.heap.push {cls:=.type "dict_keyiterator",data:=.fields #[.ref d,.int 0 0,.int es.size 0,.int ep 0]}}): wpAny (model prog w) A (pyIter (.ref d)) Q E s:=by
 obtain⟨o,ho,hc,hdat⟩:=id hm;have hT:=hm.typeIs;refine wpAny_pyIter_slot hT F.slot_dict_iter (_T F.slot_dict_iter hT F.entry_dict_iter ?_ (F.args_dict_iter_1 _));unfold Builtin.«dict.__iter__»;refine _a ?_;unfold Builtin.Dict.dictSlotNone;refine _a (wpAny_notOrdered_dict hT ?_);show wpAny _ _ (pure (Value.ref d)) _ _ s;refine _b ?_;show wpAny _ _ (Builtin.Dict.showsAll d >>= _) _ _ s;unfold Builtin.Dict.showsAll;rw[_j (by rw[hd];exact _R)];refine _a (_b (_a (_cQ ho hdat (_a (wpAny_dictEpoch ho hdat ?_)))));refine _a (_U (_b ⟨_,rfl,"dict_keyiterator",_,⟨_,_n _ rfl,rfl⟩,_aE.lookup,?_⟩));simpa[rawInt] using hQ
end
def z45(kvs:List (List Key×V)):List D:=kvs.map λp=>.tup (p.1.map z6v)
def zdR:List D->Option (List Int)
 | []=>some [] | .int i::r=>(zdR r).map (i::·) | _=>none
def zgB:D->Option (List Int)
 | .tup ds=>zdR ds | _=>none
noncomputable def z5m:List D->Option (List (List Int))
 | []=>some [] | d::ds=>match zgB d,z5m ds with | some n,some ns=>some (n::ns) | _,_=>none
theorem z4D:∀ns:List Int,zdR (ns.map D.int)=some ns
 | []=>rfl | i::r=>by simp[zdR,z4D r]
theorem zbp:∀{ds:List D}{ns:List Int},zdR ds=some ns->ds=ns.map D.int
 | [],_,e=>by simp[zdR]at e;subst e;rfl | d::r,ns,e=>by cases d with
  | int i=>
   simp only[zdR,_w]at e;obtain⟨a,h1,rfl⟩:=e;rw[zbp h1];rfl | _=>simp[zdR]at e
theorem zcc(ns:List Int):zgB (.tup (ns.map D.int))=some ns:=z4D ns
theorem zgm{d:D}{ns:List Int}(e:zgB d=some ns):d=.tup (ns.map D.int):=by cases d with
 | tup ds=>simp only[zgB]at e;rw[zbp e] | _=>simp[zgB]at e
theorem z6y:∀L:List (List Int),z5m (L.map λns=>.tup (ns.map D.int))=some L
 | []=>rfl | n::L=>by simp only[_v,z5m,zcc,z6y L]
def AtN(H:Hp)(v:V)(ns:List Int):Prop:=∃b,v=.ref b/\H b=some (.tup (ns.map V.int))
theorem z8A{mg:Gm}{H:Hp}{Y:List Addr}{d:D}{v:V}{ns:List Int}(h:zgB d=some ns)(dn:Den mg H Y d v):AtN H v ns:=by
 rw[zgm h]at dn;simp only[Den]at dn;obtain⟨a,vs,rfl,e,dd⟩:=dn;have:∀{ns:List Int}{vs:List V},zu mg H Y (ns.map D.int) vs->vs=ns.map V.int:=by
  intro ns;induction ns with
  | nil=>intro vs h;simpa[zu] using h | cons i r ih=>
   intro vs h;simp only[_v,zu]at h;obtain⟨v,r',rfl,h1,h2⟩:=h;rw[zT h1,ih h2];rfl
 rw[this dd]at e;exact⟨a,rfl,e⟩
theorem z6J{mg:Gm}{H:Hp}{Y:List Addr}:∀{ds:List D}{vs:List V}{L:List (List Int)},z5m ds=some L->zu mg H Y ds vs->Paired (λv ns=>AtN H v ns) vs L
 | [],_,_,h,dn=>by simp only[z5m,_D]at h;simp only[zu]at dn;subst dn;subst h;exact .nil | d::ds,_,_,h,dn=>by
  simp only[zu]at dn;obtain⟨v,vs,rfl,h1,h2⟩:=dn;simp only[z5m]at h;split at h
  ·rename_i n ns e1 e2;cases h;exact .cons (z8A e1 h1) (z6J e2 h2)
  ·cases h
theorem z23:∀ns:List Int,PyData.canLayAll0 (toPys (ns.map D.int))=true/\PyData.depthAll (toPys (ns.map D.int))<=1
 | []=>by decide | i::k=>by
  have:=z23 k;simp only[_v,xK,toPys,PyData.canLayAll0,PyData.canLay0,PyData.depthAll,PyData.depth,_cX,this.1,true_and];omega
theorem z0c:∀a b:List Int,PyData.eqvAll (toPys (a.map D.int)) (toPys (b.map D.int))=decide (a=b)
 | [],[]=>by simp[toPys,PyData.eqvAll] | [],_::_=>by simp[toPys,PyData.eqvAll] | _::_,[]=>by simp[toPys,PyData.eqvAll] | x::a,y::b=>by
  simp only[_v,toPys,xK,PyData.eqvAll,PyData.eqv,z0c a b,_aK];by_cases h:x=y<;>by_cases h2:a=b<;>simp[h,h2]
section
variable {X:Cx}{pins:List (Addr×Obj)}{O:L2.St}{H:Hp}{s:Shared}
theorem AtN.reads (mg:Gm) {h:Heap} {P:Program} {w:World} (ok:HOk P w H h) {v:V} {u:Value} {ns:List Int} (a:AtN H v ns) (r:yr v u):∃as,Reads h u (xK (.tup (ns.map D.int))) as:=by
 refine Den.reads (mg:=mg) (Y:=[]) (H:=H) (v:=v) ok (by simp only[xK,PyData.canLay0];exact (z23 ns).1) ?_ r;obtain⟨b,rfl,e⟩:=a;simp only[Den];refine⟨b,_,rfl,e,?_⟩;clear e;induction ns with
 | nil=>exact zu.nil | cons i r ih=>exact zu.cons yq ih
theorem AtN.eqAt(mg:Gm){A:Around}{P:Program}{w:World}(ok:HOk P w H s.heap)(hu:A.units+2<cLine){v x:V}{u y:Value}{ns ms:List Int}(a:AtN H v ns)(r:yr v u)(b:AtN H x ms)(q:yr x y): SeqAt.EqAt A s u y (decide (ns=ms)):=by
 obtain⟨as,ra⟩:=a.reads mg ok r;obtain⟨bs,rb⟩:=b.reads mg ok q;have h:=SeqAt.eqAt_reads _ _ A s u y as bs ra rb (by simp only[xK,PyData.canLay0];exact (z23 ns).1) (by simp only[xK,PyData.canLay0];exact (z23 ms).1) (by
  have h1:=(z23 ns).2;have h2:min (xK (.tup (ns.map D.int))).depth (xK (.tup (ms.map D.int))).depth<=(xK (.tup (ns.map D.int))).depth:=Nat.min_le_left _ _;have h3:(xK (.tup (ns.map D.int))).depth<=2:=by simp only[xK,PyData.depth];omega
  omega);rw[show PyData.eqv (xK (.tup (ns.map D.int))) (xK (.tup (ms.map D.int)))=decide (ns=ms) by simp only[xK,PyData.eqv,z0c]]at h;exact h
end
end Dd
namespace L2
open PySem.Builtin.Str
end L2
namespace Dd
open L2 PySem.Builtin.Str
end Dd
namespace Zz
abbrev T1(b1:Bool)(h:Heap)(l1:Addr):Heap:=h.push (itO b1 l1)
abbrev T2(b1 b2:Bool)(h:Heap)(l1 l2:Addr):Heap:=(T1 b1 h l1).push (itO b2 l2)
end Zz
namespace L2
open Zz
end L2
namespace Dd
open L2
def lexN:List Int->List Int->Bool
 | [],[]=>false | [],_::_=>true | _::_,[]=>false | x::a,y::b=>if x=y then lexN a b else decide (x<y)
inductive yK:List Value->List Int->Prop | nil:yK [] [] | cons {i t vs ns}:yK vs ns->yK (.int i t::vs) (i::ns)
theorem yK.of_vals:∀{ns:List Int}{us:List Value},yw (ns.map V.int) us->yK us ns
 | [],_,.nil=>.nil | _::_,_,.cons ⟨_,rfl⟩ r=>.cons (yK.of_vals r)
theorem yK.length:∀{us ns},yK us ns->us.length=ns.length
 | _,_,.nil=>rfl | _,_,.cons r=>by simp[r.length]
section
variable {prog:Program}{w:World}{A:Around}{E:Value->Shared->Prop}{s:Shared}
theorem z7p{a b:Addr}{xs ys:Array Value}{ns ms:List Int}{P:PySem.Fin->Shared->Prop}(ha:s.heap.IsTuple a xs)(hb:s.heap.IsTuple b ys)(hx:yK xs.toList ns)(hy:yK ys.toList ms) (h:P (.done (.ret (.bool (lexN ns ms)))) s):wpAny (model prog w) A (Builtin.«tuple.__lt__» ⟨[.ref a,.ref b],[]⟩) P E s:=by
 obtain⟨oa,ga,ca,na,da⟩:=ha;obtain⟨ob,gb,cb,nb,db⟩:=hb;have tb:s.TypeIs (.ref b) "tuple":=⟨ob,gb,cb⟩;show wpAny _ _ (isInstance (.ref b) (.type "tuple") >>= _) _ _ s;refine _a (_bA tb isSubtype_tuple_tuple ?_);simp only[_bo,_ai,_aB];refine _a (_bO ga da (_a (_bO gb db (_a ?_))));refine _c8 _ (λke r s'=>r.1=none/\s'=s/\∃us vs ns' ms',ke=List.zip us vs/\yK us ns'/\yK vs ms'/\lexN ns' ms'=lexN ns ms/\(decide (us.length<vs.length))=decide (xs.size<ys.size)) _ ?_ ?_ _ _ ⟨rfl,rfl,xs.toList,ys.toList,ns,ms,rfl,hx,hy,rfl,by simp⟩
 ·rintro⟨u,v⟩ ke r s' ⟨hr,rfl,us,vs,ns',ms',hz,h1,h2,hl,hs⟩;cases h1 with
  | nil=>simp at hz | @cons i t us' ns'' h1'=>cases h2 with
   | nil=>simp at hz | @cons j t' vs' ms'' h2'=>
    simp only[List.zip_cons_cons,_aK,_a3]at hz;obtain⟨⟨rfl,rfl⟩,rfl⟩:=hz;refine _a (_b7 ?_);by_cases e:i=j
    ·subst e;simp only[beq_self_eq_true,_bo,_ai,_aB];exact _b ⟨rfl,rfl,us',vs',ns'',ms'',rfl,h1',h2',by rw[<- hl];simp[lexN],by simpa using hs⟩
    ·rw[show (i==j)=false by simpa using e];simp only[_cC,_G];have hf:lexN ns ms=decide (i<j):=by rw[<- hl];simp[lexN,e]
     rw[hf]at h;refine _a (_a2 (_a (show wpAny _ _ (compareOp .Lt (.int i t) (.int j t')) _ _ _ from _cr ?_)));exact _a (_b (_b (_b h)))
 ·rintro⟨r1,r2⟩ s' ⟨hr,rfl,us,vs,ns',ms',hz,h1,h2,hl,hs⟩;simp only at hr;subst hr;refine _b ?_;have hfin:decide (xs.size<ys.size)=lexN ns ms:=by
   rw[<- hl,<- hs];cases h1 with
   | nil=>cases h2<;>simp[lexN] | cons _=>cases h2 with
    | nil=>simp[lexN] | cons _=>simp at hz
  show P (.done (.ret (.bool (decide (xs.size<ys.size))))) s';rw[hfin];exact h
theorem zje{a b:Addr}{xs ys:Array Value}{ns ms:List Int}{Q:Value->Shared->Prop}(hu:A.units<cLine)(ha:s.heap.IsTuple a xs)(hb:s.heap.IsTuple b ys)(hx:yK xs.toList ns)(hy:yK ys.toList ms) (h:Q (.bool (lexN ns ms)) s):wpAny (model prog w) A (richCompare .Lt (.ref a) (.ref b)) Q E s:=by
 have ta:s.TypeIs (.ref a) "tuple":=by obtain⟨o,g,c,_⟩:=ha;exact⟨o,g,c⟩
 have tb:s.TypeIs (.ref b) "tuple":=by obtain⟨o,g,c,_⟩:=hb;exact⟨o,g,c⟩
 refine wpAny_richCompare_same_room ta tb _bq (_T _bq ta PySem.F.entry_tuple_lt ?_ (PySem.F.args_tuple_lt_2 _ _)) hu;exact z7p ha hb hx hy ⟨_,rfl,by simp,h⟩
end
section
variable {prog:Program}{w:World}{A:Around}{R:Result->Shared->Prop}{I S:Addr}{fp wr:List Addr}{n:Nat}{P:Nat->Value->Prop}{St:Nat->Heap->Prop}{Kh:Heap->Prop}{bt:Nat->Nat->Bool}
theorem z8Q (W:Walks prog w A.in1 I fp wr n P St) (cmp:∀i j vi vj (s:Shared) (Q:Value->Shared->Prop) (E:Value->Shared->Prop),Kh s.heap->P i vi->P j vj->Q (.bool (bt i j)) s->wpAny (model prog w) A.in1 (richCompare .Lt vi vj) Q E s) (keep:∀h h':Heap,Kh h->(∀b o,b∉wr->b≠S->h.get? b=some o->h'.get? b=some o)->Kh h') (out:S∉fp) (k:Nat): ∀(j:Nat) (s:Shared) (v:Value) (c:Nat),n=j+1+k->St (j+1) s.heap->Kh s.heap->P (argBest bt j) v->s.heap.get? S=some (seqObj "list" #[v,v] c)-> (∀u h' tk,P (argBest bt (n-1)) u->(∀b o,b∉wr->b≠S->s.heap.get? b=some o->h'.get? b=some o)->R (.ok (.ret u)) {s with heap:=h',toks:=tk})-> codeAny (model prog w) A (.builtin "min.loop" ⟨[.ref I,.none,.ref S],[]⟩) R s:=by
 have ow:S∉wr:=λz=>out (W.sub _ z);have nm:(toString "min"++toString ".loop":String)="min.loop":=by decide
 induction k with
 | zero=>
  intro j s v c en st kh pv gS fin;refine _cn _bZ ?_;rw[_ch _at _];show wpAny _ A.in1 (seqItems? (.ref S) >>= _) _ _ s;refine _a (_aC gS rfl ?_);show wpAny _ A.in1 (tryCatch (pyNext (.ref I)) _ >>= _) _ _ s;refine _a (_cD (W.done s _ _ (by rw[en];exact st) λh1 tk k1=>?_));show wpAny _ A.in1 (updateSeq S (λ_=>#[]) >>= _) _ _ _;refine _a (wpAny_updateSeq (k1 S _ ow gS) rfl (_a (_bv (_b ?_))));exact fin v _ tk (by rw[show n-1=j by omega];exact pv) λb o hb hS e=>(_ah _ _ (_aM hS)).trans (k1 b o hb e) | succ k ih=>
  intro j s v c en st kh pv gS fin;refine _cn _bZ ?_;rw[_ch _at _];show wpAny _ A.in1 (seqItems? (.ref S) >>= _) _ _ s;refine _a (_aC gS rfl ?_);show wpAny _ A.in1 (tryCatch (pyNext (.ref I)) _ >>= _) _ _ s;refine _a (_cD (W.item (j+1) s _ _ (by omega) st λu h1 tk pu st1 k1=>?_));have gS1:=k1 S _ ow gS;show wpAny _ A.in1 (tryCatch (holding [u,u] (richCompare .Lt u v >>= _)) _ >>= _) _ _ _;refine _a (_cD (_aG (_a (cmp (j+1) (argBest bt j) u v _ _ _ (keep _ _ kh λb o hb _ e=>k1 b o hb e) pu pv ?_))));refine _a (_aG (_ae (_a (_bv (_b ?_)))));by_cases q:bt (j+1) (argBest bt j)=true
  ·rw[q];simp only[_G];refine _a (wpAny_updateSeq gS1 rfl (_a (_bv ?_)));rw[nm];refine _b ⟨_cY _at _,ih (j+1) _ u _ (by omega) (W.frame _ _ _ st1 λb hb o e=>(_ah _ _ (λz:S=b=>out (z ▸ hb))).trans e) ?_ (by rw[show argBest bt (j+1)=j+1 by simp[argBest,q]];exact pu) (_aV _ gS1 rfl) λu' h2 tk2 p2 k2=>?_⟩;·exact keep _ _ kh λb o hb hS e=>(_ah _ _ (_aM hS)).trans (k1 b o hb e)
   ·exact fin u' h2 tk2 p2 λb o hb hS e=>k2 b o hb hS ((_ah _ _ (_aM hS)).trans (k1 b o hb e))
  ·rw[show bt (j+1) (argBest bt j)=false by simpa using q];simp only[_ai,_aB];refine _a (_bv ?_);rw[nm];refine _b ⟨_cY _at _,ih (j+1) _ v c (by omega) st1 (keep _ _ kh λb o hb _ e=>k1 b o hb e) (by rw[show argBest bt (j+1)=argBest bt j by simp[argBest,q]];exact pv) gS1 λu' h2 tk2 p2 k2=>?_⟩;exact fin u' h2 tk2 p2 λb o hb hS e=>k2 b o hb hS (k1 b o hb e)
end
section
variable {prog:Program}{w:World}{A:Around}{E:Value->Shared->Prop}{s:Shared}
theorem z9D {x:Value} {Q:Value->Shared->Prop} (h:wpAny (model prog w) A.in1 (pyIter x) (λit s2=>∃I fp wr n P St bt,∃Kh:Heap->Prop,it=.ref I/\Walks prog w A.in1 I fp wr n P St/\St 0 s2.heap/\(∀b∈fp,b<s2.heap.objs.size)/\0<n/\Kh s2.heap/\ (∀i j vi vj (s:Shared) (Q:Value->Shared->Prop) (E:Value->Shared->Prop),Kh s.heap->P i vi->P j vj->Q (.bool (bt i j)) s->wpAny (model prog w) A.in1 (richCompare .Lt vi vj) Q E s)/\ (∀h h':Heap,Kh h->(∀b o,b∉wr->b<s2.heap.objs.size->h.get? b=some o->h'.get? b=some o)->Kh h')/\ ∀v h' tk,P (argBest bt (n-1)) v->(∀b o,b∉wr->s2.heap.get? b=some o->h'.get? b=some o)->Q v {s2 with heap:=h',toks:=tk}) E s): wpAny (model prog w) A (call (.builtin "min") [x]) Q E s:=by
 have nm:(toString "min"++toString ".loop":String)="min.loop":=by decide
 refine call_function_tree PySem.F.kind_min PySem.F.plain_min PySem.F.entry_min (PySem.F.args_min1 _) ?_;show wpAny _ A.in1 (Builtin.Builtins.bindParams "min" ["key","default"] 0 ⟨[],[]⟩ >>= _) _ _ s;refine _a (wpAny_of_eq (show Builtin.Builtins.bindParams "min" ["key","default"] 0 ⟨[],[]⟩=pure [none,none] from rfl) (_a (_b ?_)));refine _a (_r h (λit s2 z=>?_) λ_ _ e=>e);obtain⟨I,fp,wr,n,P,St,bt,Kh,rfl,W,st,bd,hn,kh,cmp,keep,fin⟩:=z;refine _a (_U ?_);have out:s2.heap.objs.size∉fp:=λz=>_al _ (bd _ z);have ow:s2.heap.objs.size∉wr:=λz=>out (W.sub _ z);have keep':∀h h':Heap,Kh h->(∀b o,b∉wr->b≠s2.heap.objs.size->h.get? b=some o->h'.get? b=some o)->Kh h':=λh h' z k=>keep h h' z λb o hb lt e=>k b o hb (_y lt) e;rw[nm];refine _b ⟨_cY _at _,_cn _bZ ?_⟩;have gS:(s2.heap.push (seqObj "list" #[] 0)).get? s2.heap.objs.size=some (seqObj "list" #[] 0):=_n _ rfl;rw[_ch _at _];show wpAny _ A.in1 (seqItems? (.ref s2.heap.objs.size) >>= _) _ _ {s2 with heap:=s2.heap.push (seqObj "list" #[] 0)};refine _a (_aC gS rfl ?_);show wpAny _ A.in1 (tryCatch (pyNext (.ref I)) _ >>= _) _ _ _;refine _a (_cD (W.item 0 _ _ _ hn (W.frame _ _ _ st λb _ o e=>_d _ e) λu h1 tk pu st1 k1=>?_));have gS1:=k1 _ _ ow gS;show wpAny _ A.in1 (updateSeq s2.heap.objs.size (λ_=>#[u,u]) >>= _) _ _ _;refine _a (wpAny_updateSeq gS1 rfl ?_);rw[nm];have old:∀b o,b∉wr->b≠s2.heap.objs.size->s2.heap.get? b=some o->(h1.update s2.heap.objs.size (Obj.mapSeq λ_=>#[u,u])).get? b=some o:=λb o hb hS e=> (_ah _ _ (_aM hS)).trans (k1 b o hb (_d _ e));refine _b ⟨_cY _at _,z8Q W cmp keep' out (n-1) 0 _ u _ (by omega) (W.frame _ _ _ st1 λb hb o e=>(_ah _ _ (λz:s2.heap.objs.size=b=>out (z ▸ hb))).trans e) (keep' _ _ kh old) pu (_aV _ gS1 rfl) λu' h2 tk2 p2 k2=>?_⟩;exact fin u' h2 tk2 p2 λb o hb e=>k2 b o hb (_y (_m e)) (old b o hb (_y (_m e)) e)
end
end Dd
namespace L2
end L2
namespace Dd
open L2
section
variable {X:Cx}{E:XK}
theorem z0w{α β:Type}{R:α->β->Prop}:∀{xs:List α}{ys:List β},Paired R xs ys->∀(i:Nat)(x:α),xs[i]? = some x->∃y,ys[i]? = some y/\R x y
 | _,_,.nil,i,x,e=>by simp at e | _,_,.cons h r,0,x,e=>by simp at e;subst e;exact⟨_,rfl,h⟩ | _,_,.cons h r,i+1,x,e=>by simpa using z0w r i x (by simpa using e)
theorem z3I{α β:Type}{R:α->β->Prop}:∀{xs:List α}{ys:List β},Paired R xs ys->xs.length=ys.length
 | _,_,.nil=>rfl | _,_,.cons h r=>by simp[z3I r]
theorem AtN.tuple{pins:List (Addr×Obj)}{O:L2.St}{H:Hp}{s:Shared}(I:Inv X pins O H s){v:V}{u:Value}{ns:List Int}(a:AtN H v ns)(r:yr v u):∃b its,v=.ref b/\u=.ref b/\s.heap.IsTuple b its/\yK its.toList ns:=by
 obtain⟨b,rfl,e⟩:=a;cases (show u=Value.ref b from r);obtain⟨its,r,pl,hz⟩:=I.tuple (.inl (.inl e));exact⟨b,its.toArray,rfl,rfl,pl,yK.of_vals (by simpa using r)⟩
end
end Dd
namespace L2
section
variable {prog:Program}{w:World}{A:Around}{R:Result->Shared->Prop}{s:Shared}{elt t1 i1 t2 i2:Expr}{scope:Scope}{pos:Pos}{it acc:Value}{env:Env}
theorem zak:compTurn (.ListComp elt [⟨t1,i1,[],0⟩,⟨t2,i2,[],0⟩] scope pos) 0 it acc env=(standAt i1.pos >>= λ_=>pyNext it >>= λr=>match r with
  | none=>pure (.done .next) | some v=>letOwnedTupleGo t1 it v >>= λ_=>assign t1 env v >>= λ_=>eval i2 env >>= λx=>standAt i2.pos >>= λ_=>foldedSetIterable i2 env x >>= λx=>holding [x] (pyIter x) >>= λjt=> runOwn (.compStart (.ListComp elt [⟨t1,i1,[],0⟩,⟨t2,i2,[],0⟩] scope pos) 1 jt acc env) env >>= λ_=>again (.compLoop (.ListComp elt [⟨t1,i1,[],0⟩,⟨t2,i2,[],0⟩] scope pos) 0 it acc env)):=by rfl
theorem zao:compTurn (.ListComp elt [⟨t1,i1,[],0⟩,⟨t2,i2,[],0⟩] scope pos) 1 it acc env=(standAt i2.pos >>= λ_=>pyNext it >>= λr=>match r with
  | none=>pure (.done .next) | some v=>letOwnedTupleGo t2 it v >>= λ_=>assign t2 env v >>= λ_=>(eval elt env >>= λx=>call (.builtin "list.append") [acc,x] >>= λ_=>pure ()) >>= λ_=> again (.compLoop (.ListComp elt [⟨t1,i1,[],0⟩,⟨t2,i2,[],0⟩] scope pos) 1 it acc env)):=by rfl
theorem zae(I:Nat->Shared->Prop) (turn:∀n s,I n s->wpAny (model prog w) A (pyNext it) (λr s₁=>match r with
   | none=>R (.ok .next) s₁ | some v=>wpAny (model prog w) A (letOwnedTupleGo t2 it v) (λ_ s₁'=>wpAny (model prog w) A (assign t2 env v) (λ_ s₂=>wpAny (model prog w) A (eval elt env) (λx s₄=> wpAny (model prog w) A (call (.builtin "list.append") [acc,x]) (λ_ s₅=>∃m,m<n/\I m s₅) (λ_ _=>False) s₄) (λ_ _=>False) s₂) (λ_ _=>False) s₁') (λ_ _=>False) s₁) (λ_ _=>False) s) (n:Nat)(h:I n s):codeAny (model prog w) A (.compLoop (.ListComp elt [⟨t1,i1,[],0⟩,⟨t2,i2,[],0⟩] scope pos) 1 it acc env) R s:=by
 refine codeAny_loop rfl I (λn s hI=>?_) n h;show wpAny _ A ((compTurn (.ListComp elt [⟨t1,i1,[],0⟩,⟨t2,i2,[],0⟩] scope pos) 1 it acc env).onRaise (λx=>do noteFrame x env;theTreesLotGoes x)) _ _ s;refine wpAny_noted ?_;rw[zao];refine _a (_aH (_a (_r (turn n s hI) (λr s₁ h₁=>?_) λ_ _ h'=>h'.elim)));cases r with
 | none=>exact _b h₁ | some v=>
  refine _a (_r h₁ (λ_ s₁' h₁'=>_a (_r h₁' (λ_ s₂ h₂=>?_) λ_ _ h'=>h'.elim)) λ_ _ h'=>h'.elim);exact _a (_a (_r h₂ (λx s₄ h₄=>_a (_r h₄ (λ_ s₅ h₅=>_b (_b ⟨rfl,h₅⟩)) λ_ _ h'=>h'.elim)) λ_ _ h'=>h'.elim))
theorem z9i(h0:codeAny (model prog w) A (.compLoop (.ListComp elt [⟨t1,i1,[],0⟩,⟨t2,i2,[],0⟩] scope pos) 1 it acc env) R s) (h:wpAny (model prog w) A (pyIter it) (λit' s'=>codeAny (model prog w) A (.compLoop (.ListComp elt [⟨t1,i1,[],0⟩,⟨t2,i2,[],0⟩] scope pos) 1 it' acc env) R s') (notedBy (model prog w) A env λx s'=>R (.error x) s') s): codeAny (model prog w) A (.compStart (.ListComp elt [⟨t1,i1,[],0⟩,⟨t2,i2,[],0⟩] scope pos) 1 it acc env) R s:=by
 refine codeAny_of_tree ?_;show wpAny _ _ ((compStart (.ListComp elt [⟨t1,i1,[],0⟩,⟨t2,i2,[],0⟩] scope pos) 1 it acc env).onRaise (λx=>do noteFrame x env;standAt theWindowsPlace)) _ _ s;refine wpAny_notedAt ?_;unfold compStart;show wpAny _ _ (ask >>= _) _ _ s;refine _a (wpAny_askSetting (wpAny_ite ?_));split;·first
   | exact _a (_b (_b (And.intro rfl h0))) | exact _b (And.intro rfl h0)
 ·first
   | exact _a (_a2 (_a (_aH (_a (_r h (λit' s' h'=>_b (And.intro rfl h')) λ_ _ x=>x))))) | (refine _a (_a2 ?_);show wpAny _ _ (standAt i2.pos >>= _) _ _ s;exact _a (_aH (_a (_r h (λit' s' h'=>_b (And.intro rfl h')) λ_ _ x=>x))))
theorem zaP(hs2:∀x,foldedSetIterable i2 env x=pure x)(I:Nat->Shared->Prop) (turn:∀n s,I n s->wpAny (model prog w) A (pyNext it) (λr s₁=>match r with
   | none=>R (.ok .next) s₁ | some v=>wpAny (model prog w) A (letOwnedTupleGo t1 it v) (λ_ s₁'=>wpAny (model prog w) A (assign t1 env v) (λ_ s₂=>wpAny (model prog w) A (eval i2 env) (λx s₃=>wpAny (model prog w) A (pyIter x) (λjt s₄=> codeAny (model prog w) A (.compStart (.ListComp elt [⟨t1,i1,[],0⟩,⟨t2,i2,[],0⟩] scope pos) 1 jt acc env) (λr s₅=>match r with | .ok _=>∃m,m<n/\I m s₅ | .error _=>False) s₄) (λ_ _=>False) s₃) (λ_ _=>False) s₂) (λ_ _=>False) s₁') (λ_ _=>False) s₁) (λ_ _=>False) s) (n:Nat)(h:I n s):codeAny (model prog w) A (.compLoop (.ListComp elt [⟨t1,i1,[],0⟩,⟨t2,i2,[],0⟩] scope pos) 0 it acc env) R s:=by
 refine codeAny_loop rfl I (λn s hI=>?_) n h;show wpAny _ A ((compTurn (.ListComp elt [⟨t1,i1,[],0⟩,⟨t2,i2,[],0⟩] scope pos) 0 it acc env).onRaise (λx=>do noteFrame x env;theTreesLotGoes x)) _ _ s;refine wpAny_noted ?_;rw[zak];refine _a (_aH (_a (_r (turn n s hI) (λr s₁ h₁=>?_) λ_ _ h'=>h'.elim)));cases r with
 | none=>exact _b h₁ | some v=>
  refine _a (_r h₁ (λ_ s₁' h₁'=>_a (_r h₁' (λ_ s₂ h₂=>?_) λ_ _ h'=>h'.elim)) λ_ _ h'=>h'.elim);refine _a (_r h₂ (λx s₃ h₃=>_a (_aH (_a (wpAny_of_eq (hs2 x) ?_)))) λ_ _ h'=>h'.elim);refine _a (_aG (_r h₃ (λjt s₄ h₄=>?_) λ_ _ h'=>h'.elim));refine _a (wpAny_runOwn (_ct h₄ λr s₅ h₅=>?_));cases r with
  | ok f=>exact _b ⟨rfl,h₅⟩ | error e=>exact h₅.elim
end
def zbR(wi:TI)(mp:List (Option Nat))(k1 k2:Nat)(wi2:TI)(te:TE):TE:=λO H Q=>wi O H λJ H1=>∃W:Nat->Nat->List V->Hp->Prop,(∃m,W 0 m [] H1)/\∀i m ys H,W i m ys H-> (J.stop i H/\ys.length<=sizeLine/\∀p,H p=none->Q (.ref p) (upd H p (.lst ys)))\/ (J.go i H/\∀x H',J.yld i H x H'->wi2 ((inner mp O).set k1 (some x)) H' λJ2 H3=>∃W2:Nat->Nat->List V->Hp->Prop,(∃m2,W2 0 m2 ys H3)/\∀j m2 ys2 H4,W2 j m2 ys2 H4-> (J2.stop j H4/\∃m',m'<m/\W (i+1) m' ys2 H4)\/ (J2.go j H4/\∀x2 H5,J2.yld j H4 x2 H5->te (((inner mp O).set k1 (some x)).set k2 (some x2)) H5 λy H6=>ys2.length<=sizeLine/\∃m',m'<m2/\W2 (j+1) m' (ys2++[y]) H6))
theorem z5C{O:St}{i:Nat}{v:V}(h:O[i]? = some none):(O.set i (some v)).length=O.length/\∀(j:Nat) u,O[j]? = some (some u)->(O.set i (some v))[j]? = some (some u):=by
 refine⟨by simp,λj u e=>?_⟩;have:i≠j:=λz=>by subst z;rw[h]at e;cases e
 rw[_B this];exact e
theorem z27 {X:Cx} {tg iter tg2 iter2 elt:Expr} {scope:Scope} {pos:Pos} {wi2:TI} {te:TE} {N':List Str} {mp:List (Option Nat)} {k1 k2:Nat} {pins:List (Addr×Obj)} {O:St} {Q:VK} {J:It} {H2:Hp} {s₂:Shared} {it:Addr} {fp:List Addr} {tn:Nat->Heap->Prop} {E:Value->Shared->Prop} {RR:Value->Addr->Result->Shared->Prop} (hc:X.calm=true) (hm1:mp[k1]? = some none) (hm2:mp[k2]? = some none) (hk:k1≠k2) (hg:∀ex s H,PG (zn X N' scope ex s H) tg (jH k1)) (hg2:∀ex s H,PG (zn X N' scope ex s H) tg2 (jH k2)) (hi2:∀ex s H,PI (zn X N' scope ex s H) tg2 iter2 wi2) (he:∀ex s H,PE (zn X N' scope ex s H) elt te) (hs2:∀env x,foldedSetIterable iter2 env x=pure x) (hkd:scope.kind=.function) (hnm:∀y∈scope.names,scope.names.lookup y.1=some y.2) (hfr:∀y∈scope.names,y.2=.free->X.env.kindOf y.1=some .cell\/X.env.kindOf y.1=some .free) (hmp:z1c X.N scope.names N' mp=true) (I2:Inv X pins O H2 s₂) (T:zcK X.prog X.w X.K tg J fp it tn) (st2:tn 0 s₂.heap) (f2:∀b∈fp,z3v X pins H2 b) (W:Nat->Nat->List V->Hp->Prop) (w0:∃m,W 0 m [] H2) (turn:∀i m ys H,W i m ys H-> (J.stop i H/\ys.length<=sizeLine/\∀p,H p=none->Q (.ref p) (upd H p (.lst ys)))\/ (J.go i H/\∀x H',J.yld i H x H'->wi2 ((inner mp O).set k1 (some x)) H' λJ2 H3=>∃W2:Nat->Nat->List V->Hp->Prop,(∃m2,W2 0 m2 ys H3)/\∀j m2 ys2 H4,W2 j m2 ys2 H4-> (J2.stop j H4/\∃m',m'<m/\W (i+1) m' ys2 H4)\/ (J2.go j H4/\∀x2 H5,J2.yld j H4 x2 H5->te (((inner mp O).set k1 (some x)).set k2 (some x2)) H5 λy H6=>ys2.length<=sizeLine/\∃m',m'<m2/\W2 (j+1) m' (ys2++[y]) H6))) (hRR:∀acc C s',kM X pins O C Q acc s'->RR acc C (.ok .next) s'): wpAny (model X.prog X.w) X.A (newList []) (λacc s₃=>wpAny (model X.prog X.w) X.A (newFunctionEnv scope X.env.globals (z4C X.env scope.names []) [] X.env.qual none .none (some X.env)) (λcenv s₄=> codeAny (model X.prog X.w) X.A (.compStart (.ListComp elt [⟨tg,iter,[],0⟩,⟨tg2,iter2,[],0⟩] scope pos) 0 (.ref it) acc {cenv with scope:=relabel scope X.env}) (RR acc cenv.locals) s₄) E s₃) E s₂:=by
 refine _U ?_;have hf2:H2 s₂.heap.objs.size=none:=I2.hok.fresh (_h _);have fA:z3v X pins H2 s₂.heap.objs.size:=I2.fpOk (_h _) hf2;generalize hacc:s₂.heap.objs.size=acc at hf2 fA ⊢;have I3:Inv X pins O H2 {s₂ with heap:=s₂.heap.push {cls:=.type "list",data:=.seq ([]:List Value).toArray}}:=I2.kept (t':=s₂.toks) λb o e=>_d _ e;have ha3:(s₂.heap.push {cls:=.type "list",data:=.seq ([]:List Value).toArray}).get? acc=some (LCg.lst []):=by rw[<- hacc];exact _n _ rfl
 have sz3:(s₂.heap.push {cls:=.type "list",data:=.seq ([]:List Value).toArray}).objs.size=acc+1:=by rw[_ak,hacc]
 have kp3:∀b o,s₂.heap.get? b=some o->(s₂.heap.push {cls:=.type "list",data:=.seq ([]:List Value).toArray}).get? b=some o:=λb o e=>_d _ e;show wpAny _ _ _ _ _ {s₂ with heap:=s₂.heap.push {cls:=.type "list",data:=.seq ([]:List Value).toArray}};generalize hs3:({s₂ with heap:=s₂.heap.push {cls:=.type "list",data:=.seq ([]:List Value).toArray}}:Shared)=s₃ at I3 ⊢;have ha3':s₃.heap.get? acc=some (LCg.lst []):=by rw[<- hs3];exact ha3
 have sz3':s₃.heap.objs.size=acc+1:=by rw[<- hs3];exact sz3
 have kp3':∀b o,s₂.heap.get? b=some o->s₃.heap.get? b=some o:=by rw[<- hs3];exact kp3
 have flt:∀b∈fp,b<acc:=λb hb=>by
  obtain⟨o,e,_⟩:=T.obj 0 _ st2 b hb;rw[<- hacc];exact _m e
 have fne:∀b∈fp,b≠acc:=λb hb=>_y (flt b hb);have tn3:tn 0 s₃.heap:=T.keep 0 _ _ st2 λb hb o e=>kp3' b o e;refine z2X ?_;rw[xI];have hex:∀b∈acc::fp,b<s₃.heap.objs.size/\H2 b=none/\b≠X.env.locals/\b∉X.fs/\(b∈X.ex\/X.s₀.heap.objs.size<=b)/\(∀x c,X.env.cells.lookup x=some c->c≠b):=λb hb=>by
  rcases _q.mp hb with z | hb
  ·subst z;exact⟨by rw[sz3'];exact _ba _,hf2,fA.2.1,fA.2.2.1,fA.2.2.2.1,fA.2.2.2.2.1⟩
  ·have q:=f2 b hb;exact⟨by rw[sz3'];exact _aJ (flt b hb),q.1,q.2.1,q.2.2.1,q.2.2.2.1,q.2.2.2.2.1⟩
 have I4:=z3Y (N':=N') (mp:=mp) (ex:=acc::fp) (s1:={s₃ with heap:=pushCells (s₃.heap.push {cls:=.type "dict",data:=.dict #[]}) scope.names}) I3 hkd hnm hfr hmp hex rfl rfl rfl;have kp4:∀b o,s₃.heap.get? b=some o->(pushCells (s₃.heap.push {cls:=.type "dict",data:=.dict #[]}) scope.names).get? b=some o:=λb o e=>_ck _ _ b o (_d _ e);generalize hs4:({s₃ with heap:=pushCells (s₃.heap.push {cls:=.type "dict",data:=.dict #[]}) scope.names}:Shared)=s₄ at I4 ⊢;have ha4:s₄.heap.get? acc=some (LCg.lst []):=by rw[<- hs4];exact kp4 _ _ ha3'
 have tn4:tn 0 s₄.heap:=T.keep 0 _ _ tn3 λb hb o e=>by rw[<- hs4];exact kp4 b o e
 have Cne:acc≠s₃.heap.objs.size:=by rw[sz3'];exact _y (_ba _)
 have celln:∀b∈acc::fp,∀x c,(z7F X scope s₃.heap.objs.size).cells.lookup x=some c->c≠b:=λb hb=>(I4.ok.exf b hb).2;have stat:∀{H':Hp} {o:Obj},(∀b∈fp,H' b=none)->∀b∈fp,z3v (zn X N' scope (acc::fp) s₃ H2) [(acc,o)] H' b:=λ{H' o} hn b hb=> ⟨hn b hb,_y (by show b<s₃.heap.objs.size;rw[sz3'];exact _aJ (flt b hb)),λhf=>I4.ok.exfs b (_x _ hb) hf,.inl (_x _ hb),celln b (_x _ hb),λp hp=>by
   have e:p=(acc,o):=by simpa[zn] using hp
   rw[e];exact _aM (fne b hb)⟩;have accP:∀(its:List Value) (v:Option Value),(LCg.lst its).data≠.cell v:=λits v z=>by
  have z':Data.seq _ _=Data.cell v:=z;cases z'
 have pinA:∀{P:List (Addr×Obj)} {O':St} {H':Hp} {s':Shared} {its:List Value},Inv (zn X N' scope (acc::fp) s₃ H2) P O' H' s'->H' acc=none->s'.heap.get? acc=some (LCg.lst its)->Inv (zn X N' scope (acc::fp) s₃ H2) ([(acc,LCg.lst its)]++P) O' H' s':=λ{P O' H' s' its} J' n' e'=> J'.pins_of λp hp=>by
   rcases _H.mp hp with hp | hp
   ·have e:p=(acc,LCg.lst its):=by simpa using hp
    subst e;exact⟨e',n',Cne,λhf=>I4.ok.exfs acc _N hf,accP its⟩
   ·exact J'.pin p (_s _ hp)
 obtain⟨m0,w0⟩:=w0;have loop:codeAny (model X.prog X.w) X.A (.compLoop (.ListComp elt [⟨tg,iter,[],0⟩,⟨tg2,iter2,[],0⟩] scope pos) 0 (.ref it) (.ref acc) (z7F X scope s₃.heap.objs.size)) (RR (.ref acc) s₃.heap.objs.size) s₄:=by
  refine zaP (hs2 _) (λn s'=>∃i ys its H',Inv (zn X N' scope (acc::fp) s₃ H2) [] (inner mp O) H' s'/\tn i s'.heap/\(∀b∈fp,H' b=none)/\H' acc=none/\s'.heap.get? acc=some (LCg.lst its)/\yw ys its/\W i n ys H') ?_ m0 ⟨0,[],[],H2,I4,tn4,λb hb=>(f2 b hb).1,hf2,ha4,.nil,w0⟩;rintro n s5 ⟨i,ys,its,H5,I5,tn5,n5,na5,ea5,rv5,w5⟩;have I5':Inv (zn X N' scope (acc::fp) s₃ H2) [(acc,LCg.lst its)] (inner mp O) H5 s5:=pinA I5 na5 ea5;rcases turn i n ys H5 w5 with⟨stop,hz,q⟩ | ⟨go,step⟩
  ·refine _r (T.done (zn X N' scope (acc::fp) s₃ H2) rfl rfl rfl hc i _ s5 _ H5 (λ_ _=>False) I5' (stat n5) tn5 stop) (λr s6 ⟨hr,I6⟩=>?_) λ_ _ z=>z;subst hr;have ea6:=(I6.pin (acc,LCg.lst its) (by simp)).1;have un:Un (frs X.stack) (acc::fp) H2 H5 s₃.heap s6.heap:=I6.base;have I7:Inv X pins O H5 s6:=I3.call' (s':=s6) (I6.os) un I6.hok I6.bare λb hb=>by
    rcases _q.mp hb with z | hb;·subst z;exact⟨fA.2.2.2.1,fA.2.1,fA.2.2.2.2.1,fA.2.2.2.2.2⟩
    ·exact⟨(f2 b hb).2.2.2.1,(f2 b hb).2.1,(f2 b hb).2.2.2.2.1,(f2 b hb).2.2.2.2.2⟩
   have C7:z3v X pins H5 s₃.heap.objs.size:=I3.fpOk (_h _) I6.free;refine hRR _ _ s6 ⟨.ref acc,upd H5 acc (.lst ys),I7.track ⟨na5,fA.2⟩ ?_,rfl,q acc na5,?_,?_,C7.2⟩;·exact⟨hz,its,_,rv5,ea6⟩
   ·obtain⟨m,hm,_⟩:=I6.loc;exact⟨m,hm⟩
   ·rw[zE (_aM Cne)];exact I6.free
  ·refine _r (T.item (zn X N' scope (acc::fp) s₃ H2) rfl rfl rfl hc i _ s5 _ H5 (λ_ _=>False) I5' (stat n5) tn5 go) (λr s6 ⟨u,hr,h6⟩=>?_) λ_ _ z=>z;subst hr;refine _r h6 (λ_ s7 ⟨x,H7,I7,r7,y7,tn7,n7⟩=>?_) λ_ _ z=>z;have I7':=I7.pinned (stat n7) (T.obj _ _ tn7);generalize hP:z3W fp s7.heap=P7 at I7';have inP:∀b∈fp,∀o,s7.heap.get? b=some o->(b,o)∈P7:=λb hb o e=>by rw[<- hP];exact uV hb e
   have back:∀{O':St} {H':Hp} {s':Shared} {its':List Value},Inv (zn X N' scope (acc::fp) s₃ H2) ([(acc,LCg.lst its')]++P7) O' H' s'->(∀b∈fp,H' b=none)/\H' acc=none/\s'.heap.get? acc=some (LCg.lst its')/\tn (i+1) s'.heap:=λ{O' H' s' its'} J'=>by
    have z:=J'.pin (acc,LCg.lst its') (by simp[zn]);have zz:∀b∈fp,∀o,s7.heap.get? b=some o->s'.heap.get? b=some o/\H' b=none:=λb hb o e=>by
     have y:=J'.pin (b,o) (_s _ (_s _ (inP b hb o e)));exact⟨y.1,y.2.1⟩
    refine⟨λb hb=>?_,z.2.1,z.1,T.keep _ _ _ tn7 λb hb o e=>(zz b hb o e).1⟩;obtain⟨o,e,_⟩:=T.obj _ _ tn7 b hb;exact (zz b hb o e).2
   have ow1:(inner mp O)[k1]? = some none:=by simp[L2.inner,hm1]
   have kp1:=z5C (v:=x) ow1;have ow2:((inner mp O).set k1 (some x))[k2]? = some none:=by rw[_B hk];simp[L2.inner,hm2]
   refine _r (hg _ _ _ _ s7 (inner mp O) H7 x u (λO8 H8=>O8=(inner mp O).set k1 (some x)/\H8=H7) I7' r7 ⟨rfl,rfl⟩) (λ_ s8 ⟨O8,H8,I8,e8,e8'⟩=>?_) λ_ _ z=>z;subst e8 e8';refine _r (hi2 _ _ _ _ s8 _ H8 _ I8 (step x H8 y7)) (λxv s9 h9=>?_) λ_ _ z=>z;refine _r h9 (λjt s10 h10=>?_) λ_ _ z=>z;obtain⟨it2,fp2,tn2,J2,H10,e10,I10,T2,st10,f10,W2,⟨m2,v0⟩,turn2⟩:=h10;subst e10;obtain⟨_,na10,ea10,_⟩:=back I10;have stat2:∀{H':Hp} {its':List Value},(∀b∈fp2,H' b=none)->∀b∈fp2,z3v (zn X N' scope (acc::fp) s₃ H2) ([(acc,LCg.lst its')]++P7) H' b:=λ{H' its'} hn b hb=>by
    obtain⟨q1,q2,q3,q4,q5,q6⟩:=f10 b hb;refine⟨hn b hb,q2,q3,q4,q5,λp hp=>?_⟩;rcases _H.mp hp with hp | hp;·exact q6 p (_af _ hp)
    ·rcases _H.mp hp with hp | hp
     ·have e:p=(acc,LCg.lst its'):=by simpa using hp
      rw[e];exact q6 (acc,LCg.lst its) (_s _ (_af _ (by simp)))
     ·exact q6 p (_s _ (_s _ hp))
   have unA:∀{O':St} {H':Hp} {s':Shared} {its':List Value},Inv (zn X N' scope (acc::fp) s₃ H2) ([(acc,LCg.lst its')]++P7) O' H' s'->Inv (zn X N' scope (acc::fp) s₃ H2) P7 O' H' s':=λJ'=>J'.pins_of λp hp=>J'.pin p (_s _ (_s _ hp));have loop2:codeAny (model X.prog X.w) X.A (.compLoop (.ListComp elt [⟨tg,iter,[],0⟩,⟨tg2,iter2,[],0⟩] scope pos) 1 (.ref it2) (.ref acc) (z7F X scope s₃.heap.objs.size)) (λr s'=>match r with | .ok _=>∃m,m<n/\∃i ys its H',Inv (zn X N' scope (acc::fp) s₃ H2) [] (inner mp O) H' s'/\tn i s'.heap/\(∀b∈fp,H' b=none)/\H' acc=none/\s'.heap.get? acc=some (LCg.lst its)/\yw ys its/\W i m ys H' | .error _=>False) s10:=by
    refine zae (λn' s'=>∃j ys2 its2 H',Inv (zn X N' scope (acc::fp) s₃ H2) P7 ((inner mp O).set k1 (some x)) H' s'/\tn2 j s'.heap/\(∀b∈fp2,H' b=none)/\H' acc=none/\s'.heap.get? acc=some (LCg.lst its2)/\yw ys2 its2/\W2 j n' ys2 H') ?_ m2 ⟨0,ys,its,H10,unA I10,st10,λb hb=>(f10 b hb).1,na10,ea10,rv5,v0⟩;rintro n' s11 ⟨j,ys2,its2,H11,I11,tn11,n11,na11,ea11,rv11,v11⟩;have I11':=pinA I11 na11 ea11;rcases turn2 j n' ys2 H11 v11 with⟨stop2,m',lt,w12⟩ | ⟨go2,step2⟩
    ·refine _r (T2.done (zn X N' scope (acc::fp) s₃ H2) rfl rfl rfl hc j _ s11 _ H11 (λ_ _=>False) I11' (stat2 n11) tn11 stop2) (λr s12 ⟨hr,I12⟩=>?_) λ_ _ z=>z;subst hr;obtain⟨z1,z2,z3,z4⟩:=back I12;exact⟨m',lt,i+1,ys2,its2,H11,(I12.pins_of (pins':=[]) (λp hp=>absurd hp (by simp))).weak kp1.1.symm kp1.2,z4,z1,z2,z3,rv11,w12⟩
    ·refine _r (T2.item (zn X N' scope (acc::fp) s₃ H2) rfl rfl rfl hc j _ s11 _ H11 (λ_ _=>False) I11' (stat2 n11) tn11 go2) (λr s12 ⟨u2,hr,h12⟩=>?_) λ_ _ z=>z;subst hr;refine _r h12 (λ_ s13 ⟨x2,H13,I13,r13,y13,tn13,n13⟩=>?_) λ_ _ z=>z;have I13':=I13.pinned (stat2 n13) (T2.obj _ _ tn13);have kp2:=z5C (v:=x2) ow2;refine _r (hg2 _ _ _ _ s13 _ H13 x2 u2 (λO14 H14=>O14=((inner mp O).set k1 (some x)).set k2 (some x2)/\H14=H13) I13' r13 ⟨rfl,rfl⟩) (λ_ s14 ⟨O14,H14,I14,e14,e14'⟩=>?_) λ_ _ z=>z;subst e14 e14';refine _r (he _ _ _ _ s14 _ H14 _ I14 (step2 x2 H14 y13)) (λyv s15 ⟨y,H15,I15,r15,hz,m',lt,v15⟩=>?_) λ_ _ z=>z;have I15u:Inv (zn X N' scope (acc::fp) s₃ H2) ([(acc,LCg.lst its2)]++P7) _ H15 s15:=I15.unpinned;obtain⟨z1,z2,z3,z4⟩:=back I15u;have zz:∀b∈fp2,∀o,s13.heap.get? b=some o->s15.heap.get? b=some o/\H15 b=none:=λb hb o e=>by
      have y:=I15.pin (b,o) (_s _ (_s _ (uV hb e)));exact⟨y.1,y.2.1⟩
     have fne2:∀b∈fp2,b≠acc:=λb hb=>by
      have:=(f10 b hb).2.2.2.2.2 (acc,LCg.lst its) (_s _ (_af _ (by simp)));exact _aM this
     have zl:its2.toArray.size<=sizeLine:=by rw[_k,<- rv11.length];exact hz
     refine append_at (hsz:=zl) z3 λh16 sb ea16=>?_;have I15w:=(unA I15u).weak kp2.1.symm kp2.2;have aP:∀p∈(zn X N' scope (acc::fp) s₃ H2).pn++P7,p.1≠acc:=λp hp=>by
      have hp':p∈P7:=by simpa[zn] using hp
      rw[<- hP]at hp';obtain⟨b,hb,e⟩:=_bL.mp hp';obtain⟨o,_,e2⟩:=_w.mp e;rw[<- e2];exact fne b hb
     have I16:Inv (zn X N' scope (acc::fp) s₃ H2) P7 ((inner mp O).set k1 (some x)) H15 {s15 with heap:=h16}:=I15w.turned (t':=s15.toks) (λb o hb e=>(sb.2 b hb).trans e) z2 Cne (.inl _N) (celln acc _N) aP;refine⟨m',lt,j+1,ys2++[y],its2++[yv],H15,I16,T2.keep _ _ _ tn13 (λb hb o e=>(sb.2 b (fne2 b hb)).trans (zz b hb o e).1),λb hb=>?_,z2,ea16.trans (_a0 some (LCg.lst_snoc its2 yv)),rv11.append (.cons r15 .nil),v15⟩;obtain⟨o,e,_⟩:=T2.obj _ _ tn13 b hb;exact (zz b hb o e).2
   exact z9i loop2 (T2.self _ 0 _ _ _ st10 loop2)
 exact codeAny_compStart_list loop (T.self _ 0 _ _ _ tn4 loop)
section
variable {X:Cx}{tg iter tg2 iter2 elt:Expr}{scope:Scope}{pos spos py:Pos}{wi wi2:TI}{te:TE}{k1 k2:Nat}
theorem zcq (N':List Str) (mp:List (Option Nat)) (hc:X.calm=true) (hm1:mp[k1]? = some none) (hm2:mp[k2]? = some none) (hk:k1≠k2) (hi:PI X tg iter wi) (hg:∀ex s H,PG (zn X N' scope ex s H) tg (jH k1)) (hg2:∀ex s H,PG (zn X N' scope ex s H) tg2 (jH k2)) (hi2:∀ex s H,PI (zn X N' scope ex s H) tg2 iter2 wi2) (he:∀ex s H,PE (zn X N' scope ex s H) elt te) (hs2:∀env x,foldedSetIterable iter2 env x=pure x) (hkd:scope.kind=.function) (hnm:∀y∈scope.names,scope.names.lookup y.1=some y.2) (hfr:∀y∈scope.names,y.2=.free->X.env.kindOf y.1=some .cell\/X.env.kindOf y.1=some .free) (hmp:z1c X.N scope.names N' mp=true) (hs:∀x,foldedSetIterable iter X.env x=pure x:=by intro _;rfl):PE X (.ListComp elt [⟨tg,iter,[],0⟩,⟨tg2,iter2,[],0⟩] scope pos) (zbR wi mp k1 k2 wi2 te):=by
 intro pins s O H Q I h;rw[eval_ListComp];refine _aP (use:=none) rfl hs (wf λy hy hf=>I.ok.has _ (hfr y hy hf)) hkd (λy hy hl=>by rw[hnm y hy,hl]) (thn (hi pins s O H _ I h) λxv s₁ h₁=>thn h₁ λitv s₂ h₂=>?_);obtain⟨it,fp,tn,J,H2,e,I2,T,st2,f2,W,w0,turn⟩:=h₂;subst e;refine z27 (N':=N') (mp:=mp) (O:=O) (pins:=pins) (Q:=Q) (RR:=λacc C=>compPost (model X.prog X.w) X.A X.xe none (EP X pins O Q) acc C) hc hm1 hm2 hk hg hg2 hi2 he hs2 hkd hnm hfr hmp I2 T st2 f2 W w0 turn ?_;rintro acc C s' ⟨v,Hf,I3,r,q,⟨m,hm⟩,f⟩;exact⟨m,hm,λh' sb=>⟨v,Hf,vX I3 f sb,r,q⟩⟩
theorem z6X {i:Nat} {y:Str} (N':List Str) (mp:List (Option Nat)) (hN:X.N.Nodup) (hy:X.N[i]? = some y) (hyl:Loc X.env.scope y) (hc:X.calm=true) (hm1:mp[k1]? = some none) (hm2:mp[k2]? = some none) (hk:k1≠k2) (hi:PI X tg iter wi) (hg:∀ex s H,PG (zn X N' scope ex s H) tg (jH k1)) (hg2:∀ex s H,PG (zn X N' scope ex s H) tg2 (jH k2)) (hi2:∀ex s H,PI (zn X N' scope ex s H) tg2 iter2 wi2) (he:∀ex s H,PE (zn X N' scope ex s H) elt te) (hs2:∀env x,foldedSetIterable iter2 env x=pure x) (hkd:scope.kind=.function) (hnm:∀y∈scope.names,scope.names.lookup y.1=some y.2) (hfr:∀y∈scope.names,y.2=.free->X.env.kindOf y.1=some .cell\/X.env.kindOf y.1=some .free) (hmp:z1c X.N scope.names N' mp=true) (hs:∀x,foldedSetIterable iter X.env x=pure x:=by intro _;rfl) (hsw:swapsWith (.ListComp elt [⟨tg,iter,[],0⟩,⟨tg2,iter2,[],0⟩] scope pos) (some (.Name y py)) spos.line X.env=pure true:=by rfl) (hf:X.fn y=true\/X.env.scope.names.lookup y=some .local:=by first | exact .inl rfl | exact .inr rfl | assumption): PS X (.Assign [.Name y py] (.ListComp elt [⟨tg,iter,[],0⟩,⟨tg2,iter2,[],0⟩] scope pos) spos) (λD O H=>zbR wi mp k1 k2 wi2 te O H (z9O λv H'=>D.nx (O.set i (some v)) H')):=by
 intro pins s O H D I h;rw[_b4 _ _ _ _ hsw];refine _a (_aH (_a ?_));show wpAny _ X.A (do let _ <- comprehension (.ListComp elt [⟨tg,iter,[],0⟩,⟨tg2,iter2,[],0⟩] scope pos) scope X.env _ (newList []) false (eval iter X.env) (some (assign (.Name y py) X.env))) _ _ s;refine _a (_r (_aP (use:=some (assign (.Name y py) X.env)) (Q:=λ_ s'=>SP X pins D .next s') rfl hs (wf λy hy hf=>I.ok.has _ (hfr y hy hf)) hkd (λy hy hl=>by rw[hnm y hy,hl]) (thn (hi pins s O H _ I h) λxv s₁ h₁=>thn h₁ λitv s₂ h₂=>?_)) (λ_ s' hq=>_b (_b hq)) λ_ _ e=>e);obtain⟨it,fp,tn,J,H2,e,I2,T,st2,f2,W,w0,turn⟩:=h₂;subst e;refine z27 (N':=N') (mp:=mp) (O:=O) (pins:=pins) (Q:=z9O λv H'=>D.nx (O.set i (some v)) H') (RR:=λacc C=>compPost (model X.prog X.w) X.A X.xe (some (assign (.Name y py) X.env)) (λ_ s'=>SP X pins D .next s') acc C) hc hm1 hm2 hk hg hg2 hi2 he hs2 hkd hnm hfr hmp I2 T st2 f2 W w0 turn ?_;intro acc C s' hd;obtain⟨v,Hf,I3,r,q,⟨m,hm⟩,f⟩:=hd.freeze;refine _bU (z06 I3 hN hy hyl r (λs'' I4 ⟨a,sb,ha⟩=>?_) hf);have hC:C≠a:=by
  rcases ha with z | z;·rw[z];exact f.2.1
  ·exact _aM (f.2.2.2.2.1 y a z)
 exact⟨m,hm.sameBut sb hC,λh' sb'=>⟨_,Hf,vX I4 f sb',q⟩⟩
end
end L2
namespace Dd
open L2
open Classical in
noncomputable def z4q(g:List (Nat×List D))(all:List D)(body:D->List D->Sto->R (List D)):List D->List D->Sto->R (List D)
 | [],acc,s=>if okG g all s then .ok acc s else .no | x::xs,acc,s=>if okG g all s then (body x acc s).bind λacc' s1=>z4q g all body xs acc' s1 else .no
noncomputable def z8f(fi:FI)(mp:List (Option Nat))(k1 k2:Nat)(fi2:FI)(fe:FE):FA:=λZ s=>(fi Z s).bind λit s1=>z4q it.2 it.1 (λd acc s=>(fi2 ((yh mp Z).set k1 (some d)) s).bind λit2 s2=>uc it2.2 it2.1 (λd2 s=>(fe (((yh mp Z).set k1 (some d)).set k2 (some d2)) s).bind λd s3=>.ok (some d) s3) it2.1 acc s2) it.1 [] s1
section
variable {X:Cx}{E:XK}{tg iter tg2 iter2 elt:Expr}{pos spos py:Pos}{mp:List (Option Nat)}{k1 k2:Nat}{fi fi2:FI}{fe:FE}{scope:Scope}
theorem z6A{O:L2.St}{H:Hp}{Q:VK}{Y:List Addr}{Z:Ev}{s:Sto}{β:Type}{kR:List D->Sto->R β}{β2:Type}{Dn:Hp->List Addr->β->β2->Prop}{Q2:β2->Hp->Prop}(r:Rep (gm X) H Y s)(en:ua (gm X) H Y Z O) (h:okR (gm X) E H Y Dn ((z8f fi mp k1 k2 fi2 fe Z s).bind kR) Q2) (fin:∀H1 Y1 s1 xs vs,Rep (gm X) H1 Y1 s1->ua (gm X) H1 Y1 Z O->zu (gm X) H1 Y1 xs vs->okR (gm X) E H1 Y1 Dn (kR xs s1) Q2->xs.length<=cap->∀p,H1 p=none->Q (.ref p) (upd H1 p (.lst vs))): zbR (tI (gm X) E fi) mp k1 k2 (tI (gm X) E fi2) (tE (gm X) E fe) O H Q:=by
 unfold z8f at h;have assoc:∀{α γ δ:Type}(x:R α)(f:α->Sto->R γ)(k:γ->Sto->R δ),(x.bind f).bind k=x.bind λa s=>(f a s).bind k:=λx f k=>by cases x<;>rfl
 rw[assoc]at h;refine⟨Y,Z,s,r,en,(okR.bind (Dn:=zc8 (gm X)) h).imp λJ H1 ⟨Y1,s1,it,stp,ok,h1⟩=>?_⟩;obtain⟨items,gd⟩:=it;simp only at h1;generalize hb:(λ(d:D)(acc:List D)(s:Sto)=>(fi2 ((yh mp Z).set k1 (some d)) s).bind λit2 s2=>uc it2.2 it2.1 (λd2 s=>(fe (((yh mp Z).set k1 (some d)).set k2 (some d2)) s).bind λd s3=>R.ok (some d) s3) it2.1 acc s2)=body at h1;refine⟨λi m ys H=>∃Y s acc,xx (gm X) H1 Y1 H Y s/\zu (gm X) H Y acc ys/\acc.length<=cap/\m=items.length-i/\i<=items.length/\okR (gm X) E H Y Dn ((z4q gd items body (items.drop i) acc s).bind kR) Q2, ⟨items.length,Y1,s1,[],.refl stp.rep,zu.nil,_am _,by simp,_am _,by simpa using h1⟩,?_⟩;rintro i m ys H2 ⟨Y2,s2,acc,stp2,dn2,hcap,rfl,hil,h2⟩;have en2:ua (gm X) H2 Y2 Z O:=(en.mono stp).mono stp2;by_cases hlt:i<items.length
 ·right;rw[_aN hlt,z4q]at h2;split at h2
  ·rename_i hG;obtain⟨go,yl⟩:=((ok H2 Y2 s2 stp2 hG i).1 items[i] (_f hlt));refine⟨go,λx H' y=>?_⟩;obtain⟨Y3,stp3,dn3⟩:=yl x H' y;have h3:=okR.rebase h2 stp3;rw[<- hb]at h3;simp only at h3;rw[hb,assoc,assoc]at h3;have en3:ua (gm X) H' Y3 ((yh mp Z).set k1 (some items[i])) ((inner mp O).set k1 (some x)):=((en2.mono stp3).inner).set dn3 k1;refine⟨Y3,(yh mp Z).set k1 (some items[i]),s2,stp3.rep,en3,(okR.bind (Dn:=zc8 (gm X)) h3).imp λJ2 H4 ⟨Y4,s4,it2,stp4,ok2,h4⟩=>?_⟩;obtain⟨items2,gd2⟩:=it2;simp only at h4;generalize hb2:(λ(d2:D)(s:Sto)=>(fe (((yh mp Z).set k1 (some items[i])).set k2 (some d2)) s).bind λd s3=>R.ok (some d) s3)=body2 at h4;have all4:xx (gm X) H1 Y1 H4 Y4 s4:=(stp2.trans stp3).trans stp4;refine⟨λj m2 ys2 H=>∃Y s acc2,xx (gm X) H4 Y4 H Y s/\zu (gm X) H Y acc2 ys2/\acc2.length<=cap/\m2=items2.length-j/\j<=items2.length/\okR (gm X) E H Y Dn ((uc gd2 items2 body2 (items2.drop j) acc2 s).bind λacc' s1=>(z4q gd items body (items.drop (i+1)) acc' s1).bind kR) Q2, ⟨items2.length,Y4,s4,acc,.refl stp4.rep,(dn2.mono stp3).mono stp4,hcap,by simp,_am _,by simpa using h4⟩,?_⟩;rintro j m2 ys2 H5 ⟨Y5,s5,acc2,stp5,dn5,hcap2,rfl,hjl,h5⟩;have en5:ua (gm X) H5 Y5 ((yh mp Z).set k1 (some items[i])) ((inner mp O).set k1 (some x)):=(en3.mono stp4).mono stp5;by_cases hlt2:j<items2.length
   ·right;rw[_aN hlt2,uc]at h5;split at h5
    ·rename_i hG2;obtain⟨go2,yl2⟩:=((ok2 H5 Y5 s5 stp5 hG2 j).1 items2[j] (_f hlt2));refine⟨go2,λx2 H6 y2=>?_⟩;obtain⟨Y6,stp6,dn6⟩:=yl2 x2 H6 y2;have h6:=okR.rebase h5 stp6;rw[<- hb2]at h6;simp only at h6;rw[hb2,assoc,assoc]at h6;have en6:=(en5.mono stp6).set dn6 k2;refine⟨Y6,((yh mp Z).set k1 (some items[i])).set k2 (some items2[j]),s5,stp6.rep,en6,(okR.bind (Dn:=Den (gm X)) h6).imp λyv H7 ⟨Y7,s7,d7,stp7,dn7,h7⟩=>?_⟩;simp only[Rb]at h7;split at h7
     ·rename_i hcc;have all7:=(stp5.trans stp6).trans stp7;refine⟨by rw[dn5.length];exact ui hcap2,items2.length-(j+1),by omega,Y7,s7,acc2++[d7],all7,((dn5.mono stp6).mono stp7).append (zu.one dn7),by simp;omega,rfl,hlt2,h7⟩
     ·exact h7.elim
    ·exact h5.elim
   ·left;have e:j=items2.length:=by omega
    subst e;rw[_ca,uc]at h5;split at h5
    ·rename_i hG2;simp only[Rb]at h5;exact⟨(ok2 H5 Y5 s5 stp5 hG2 _).2 (_h _),items.length-(i+1),by omega,Y5,s5,acc2,all4.trans stp5,dn5,hcap2,rfl,hlt,h5⟩
    ·exact h5.elim
  ·exact h2.elim
 ·left;have e:i=items.length:=by omega
  subst e;rw[_ca,z4q]at h2;split at h2
  ·rename_i hG;simp only[Rb]at h2;exact⟨(ok H2 Y2 s2 stp2 hG _).2 (_h _),by rw[dn2.length];exact ui hcap,fin H2 Y2 s2 acc ys stp2.rep en2 dn2 h2 hcap⟩
  ·exact h2.elim
noncomputable def z1a(fi:FI)(mp:List (Option Nat))(k1 k2:Nat)(fi2:FI)(fe:FE):FE:=λZ s=>(z8f fi mp k1 k2 fi2 fe Z s).bind λxs s1=>.ok (.lst xs) s1
theorem zf2 (N':List Str) (mp:List (Option Nat)) (k1 k2:Nat) (hc:X.calm=true) (hi:RI X E tg iter fi) (hg:∀ex s H,PG (zn X N' scope ex s H) tg (jH k1)) (hg2:∀ex s H,PG (zn X N' scope ex s H) tg2 (jH k2)) (hi2:∀ex s H,RI (zn X N' scope ex s H) E tg2 iter2 fi2) (he:∀ex s H,RE (zn X N' scope ex s H) E elt fe) (hm1:mp[k1]? = some none:=by rfl) (hm2:mp[k2]? = some none:=by rfl) (hk:k1≠k2:=by decide) (hs2:∀env x,foldedSetIterable iter2 env x=pure x:=by intro _ _;rfl) (hkd:scope.kind=.function:=by rfl) (hnm:z8R scope.names=true:=by rfl) (hfr:z9u X.env.kindOf scope.names=true:=by rfl) (hmp:z1c X.N scope.names N' mp=true:=by rfl) (hs:∀x,foldedSetIterable iter X.env x=pure x:=by intro _;rfl):RE X E (.ListComp elt [⟨tg,iter,[],0⟩,⟨tg2,iter2,[],0⟩] scope pos) (z1a fi mp k1 k2 fi2 fe):= zL (zcq (te:=tE (gm X) E fe) (wi2:=tI (gm X) E fi2) N' mp hc hm1 hm2 hk hi hg hg2 (λex s H=>hi2 ex s H) (λex s H=>he ex s H) hs2 hkd (z03 hnm) (kK hfr) hmp hs).freeze λO H Q ⟨Y,Z,s,r,en,h⟩=> z6A r en h λH1 Y1 s1 xs vs r1 en1 dn h1 hcap=>qD r1 h1 dn
theorem zbh (i:Nat) {y:Str} (N':List Str) (mp:List (Option Nat)) (k1 k2:Nat) (hN:X.N.Nodup) (hc:X.calm=true) (hi:RI X E tg iter fi) (hg:∀ex s H,PG (zn X N' scope ex s H) tg (jH k1)) (hg2:∀ex s H,PG (zn X N' scope ex s H) tg2 (jH k2)) (hi2:∀ex s H,RI (zn X N' scope ex s H) E tg2 iter2 fi2) (he:∀ex s H,RE (zn X N' scope ex s H) E elt fe) (hm1:mp[k1]? = some none:=by rfl) (hm2:mp[k2]? = some none:=by rfl) (hk:k1≠k2:=by decide) (hs2:∀env x,foldedSetIterable iter2 env x=pure x:=by intro _ _;rfl) (hkd:scope.kind=.function:=by rfl) (hnm:z8R scope.names=true:=by rfl) (hfr:z9u X.env.kindOf scope.names=true:=by rfl) (hmp:z1c X.N scope.names N' mp=true:=by rfl) (hy:X.N[i]? = some y:=by rfl) (hyl:Loc X.env.scope y:=by first | exact Or.inl rfl | exact Or.inr rfl) (hs:∀x,foldedSetIterable iter X.env x=pure x:=by intro _;rfl) (hsw:swapsWith (.ListComp elt [⟨tg,iter,[],0⟩,⟨tg2,iter2,[],0⟩] scope pos) (some (.Name y py)) spos.line X.env=pure true:=by rfl) (hf:X.fn y=true\/X.env.scope.names.lookup y=some .local:=by first | exact .inl rfl | exact .inr rfl | assumption): RS X E (.Assign [.Name y py] (.ListComp elt [⟨tg,iter,[],0⟩,⟨tg2,iter2,[],0⟩] scope pos) spos) (wj i (z1a fi mp k1 k2 fi2 fe)):= vA (z6X (te:=tE (gm X) E fe) (wi2:=tI (gm X) E fi2) N' mp hN hy hyl hc hm1 hm2 hk hi hg hg2 (λex s H=>hi2 ex s H) (λex s H=>he ex s H) hs2 hkd (z03 hnm) (kK hfr) hmp hs hsw hf) λD O H ⟨Y,Z,s,r,en,h⟩=>by
  have assoc:∀{α γ δ:Type} (x:R α) (f:α->Sto->R γ) (k:γ->Sto->R δ),(x.bind f).bind k=x.bind λa s=>(f a s).bind k:=λx f k=>by cases x<;>rfl
  unfold wj z1a at h;rw[assoc]at h;refine z6A r en h λH1 Y1 s1 xs vs r1 en1 dn h1 hcap p hp=>?_;refine qD (E:=E) (mg:=gm X) (xs:=xs) r1 (λv H2 Y2 stp dn2=>?_) dn p hp;exact h1 (.nx (O.set i (some v))) H2 Y2 stp ((en1.mono stp).set dn2 i)
end
end Dd
namespace L2
end L2
namespace Dd
open L2
end Dd
namespace L2
def n3(a b c:Int):Nat:=if a<b then ((b-a-1) / c+1).toNat else 0
noncomputable def z61(a c:Int)(n:Nat):List V:=(List.range n).map λk=>V.int (a+((k:Nat):Int)*c)
theorem zhL{a b c:Int}(ha:0<=a)(hb:b<=1000)(hc:1<=c):Builtin.Range.rangeSize a b c=(n3 a b c:Int)/\n3 a b c<=1000:=by
 unfold Builtin.Range.rangeSize n3;rw[_e (by omega:c > 0)];by_cases h:a<b
 ·rw[_e h,_e h];have h0:0<=(b-a-1) / c:=_co (by omega) (by omega);have h1:(b-a-1) / c<=b-a-1:=_de _ (by omega);omega
 ·rw[_j h,_j h];exact⟨rfl,by omega⟩
theorem zit{a b c:Int}(ha:0<=a)(ha':a<=1000)(hb:0<=b)(hb':b<=1000)(hc:1<=c)(hc':c<=1000):Builtin.Range.small a b c=true:=by
 obtain⟨h1,h2⟩:=zhL (a:=a) ha hb' hc;unfold Builtin.Range.small;rw[h1];simp only[Builtin.Range.rangeFitsLong,_z,Bool.or_eq_true,_an,_aw];have hm:(n3 a b c:Int)*c<=1000*1000:=Int.mul_le_mul (by omega) hc' (by omega) (by omega);have hm0:0<=(n3 a b c:Int)*c:=_cE (by omega) (by omega);generalize n3 a b c=n at *;refine⟨by omega,.inr ?_⟩;rw[_e (by omega)];simp only[_z,_an];omega
theorem z5g {X:Cx} {a b c:Expr} {ta:TA} {p p2 pos pos2:Pos} (hc:X.calm=true) (hg:Gl X "list") (hm:X.mg "list"=none) (hg2:Gl X "range") (hm2:X.mg "range"=none) (ha:PA X [a,b,c] ta) (hs2:starEach [a,b,c] X.env=[(false,eval a X.env),(false,eval b X.env),(false,eval c X.env)]:=by rfl) (hs3:starEach [b,c] X.env=[(false,eval b X.env),(false,eval c X.env)]:=by rfl) (hs:starEach [.Call (.Name "range" p2) [a,b,c] [] pos2] X.env=(false,eval (.Call (.Name "range" p2) [a,b,c] [] pos2) X.env)::starEach [] X.env:=by rfl) (hpl:(backTo pos (starEach [] X.env)).any (·.1)=false:=by rfl): PE X (.Call (.Name "list" p) [.Call (.Name "range" p2) [a,b,c] [] pos2] [] pos) (λO H Q=>ta O H λvs H1=>∃i j k:Int,vs=[.int i,.int j,.int k]/\(0<=i/\i<=1000/\0<=j/\j<=1000/\1<=k/\k<=1000)/\∀l,H1 l=none->Q (.ref l) (upd H1 l (.lst (z61 i k (n3 i j k))))):=by
 intro pins s O H Q I h;refine _ag (z0a I hg hm (u:=.type "list") (by decide +kernel) ?_ (by decide) (by decide));refine _aa ?_ hs hpl;rw[hs];show wpAny _ _ (spliced ((false,eval (.Call (.Name "range" p2) [a,b,c] [] pos2) X.env)::backTo pos (starEach [] X.env))) _ _ s;refine _bM (_ag (z0a I hg2 hm2 boot_range (_aa (thn (ha pos2 pins s O H _ I h) λus s1 ⟨vs,H1,I1,r1,q1⟩=>?_) (by rw[hs2,hs3]) (by rw[hs3];rfl)) (by decide) (by decide)));obtain⟨i,j,k,e,⟨b1,b2,b3,b4,b5,b6⟩,q⟩:=q1;subst e;cases r1 with | cons r r1=>cases r1 with | cons r' r1=>cases r1 with | cons r'' r1=>
    cases r1;obtain⟨t,rfl⟩:=r;obtain⟨t',rfl⟩:=r';obtain⟨t'',rfl⟩:=r'';have pl:Builtin.divisionGoesByPylong (j-i) k=false:=PyProof.noPylong_of_log2 (by
     have:k.natAbs<=1000:=by omega
     have h2:k.natAbs.log2<=1000:=_S (Nat.log2_le_self _) this;omega);refine call_range_3 (by omega) (_cJ ?_) (.inl pl);obtain⟨hsz,hn⟩:=zhL (a:=i) (b:=j) (c:=k) b1 b4 b5;refine call_list_range (I.ok.hd hc) (IsRange.new ..) (zit b1 b2 b3 b4 b5 b6) hsz (by omega) λh' tk acc c' hk hS hacc=>?_;have I2:Inv X pins O H1 {s1 with heap:=s1.heap.push {cls:=.type "range",data:=.fields #[.int i t,.int j t',.int k t'']},toks:=s1.toks}:=I1.kept (t':=s1.toks) λb o e=>_d _ e;have hl:(z61 i k (n3 i j k)).length=n3 i j k:=by simp[z61]
    have hv:yw (z61 i k (n3 i j k)) acc.toList:=z1U (by simp[hacc.1,hl]) λx v hv=>by
     obtain⟨tk2,rfl⟩:=hacc.2 x v (by simpa using hv);have hi:x<n3 i j k:=by
      have:=(_c.mp hv).1;simp[hacc.1]at this;omega
     exact⟨.int (i+(x:Int)*k),by simp[z61,hi],⟨tk2,rfl⟩⟩
    refine⟨.ref _,upd H1 _ (.lst (z61 i k (n3 i j k))),I2.laid (t':=tk) hk (_h _) ?_,rfl,q _ (I2.hok.fresh (_h _))⟩;exact⟨by rw[hl];exact _S hn (by decide),acc.toList,c',hv,by simpa using hS⟩
end L2
namespace Dd
open L2
section
variable {X:Cx}{E:XK}{a b c:Expr}{pos:Pos}
noncomputable def zaQ(a c:Int)(n:Nat):List D:=(List.range n).map λk=>D.int (a+((k:Nat):Int)*c)
theorem zbl{mg:Gm}{H:Hp}{Y:List Addr}(a c:Int)(n:Nat):zu mg H Y (zaQ a c n) (z61 a c n):=by
 unfold zaQ z61;induction (List.range n) with
 | nil=>exact zu.nil | cons k ks ih=>exact zu.cons yq ih
noncomputable def zjr(f:FA):FE:=λZ s=>(f Z s).bind λds s1=>match ds with
 | [.int i,.int j,.int k]=>if 0<=i/\i<=1000/\0<=j/\j<=1000/\1<=k/\k<=1000 then .ok (.lst (zaQ i k (n3 i j k))) s1 else .no | _=>.no
theorem z60{p p2 pos2:Pos}{f:FA}(hc:X.calm=true)(hg:Gl X "list")(hm:X.mg "list"=none)(hg2:Gl X "range")(hm2:X.mg "range"=none)(ha:RA X E [a,b,c] f) (hs2:starEach [a,b,c] X.env=[(false,eval a X.env),(false,eval b X.env),(false,eval c X.env)]:=by rfl)(hs3:starEach [b,c] X.env=[(false,eval b X.env),(false,eval c X.env)]:=by rfl) (hs:starEach [.Call (.Name "range" p2) [a,b,c] [] pos2] X.env=(false,eval (.Call (.Name "range" p2) [a,b,c] [] pos2) X.env)::starEach [] X.env:=by rfl)(hpl:(backTo pos (starEach [] X.env)).any (·.1)=false:=by rfl): RE X E (.Call (.Name "list" p) [.Call (.Name "range" p2) [a,b,c] [] pos2] [] pos) (zjr f):= zL (z5g hc hg hm hg2 hm2 ha hs2 hs3 hs hpl).freeze λO H Q ⟨Y,Z,s,r,en,h⟩=>by
  unfold zjr at h;refine⟨Y,Z,s,r,en,(okR.bind (Dn:=zu (gm X)) h).imp λvs H1 ⟨Y1,s1,ds,stp,dn,h1⟩=>?_⟩;split at h1
  ·rename_i i j k;split at h1
   ·rename_i hb;simp only[zu]at dn;obtain⟨v1,r1,rfl,d1,v2,r2,rfl,d2,v3,r3,rfl,d3,rfl⟩:=dn;cases zT d1;cases zT d2;cases zT d3;exact⟨i,j,k,rfl,hb,qD stp.rep h1 (zbl _ _ _)⟩
   ·exact h1.elim
  ·exact h1.elim
@[simp] theorem ziC (f:FA)(Z:Ev)(s:Sto):zjr f Z s=(f Z s).bind λds s1=>match ds with
 | [.int i,.int j,.int k]=>if 0<=i/\i<=1000/\0<=j/\j<=1000/\1<=k/\k<=1000 then .ok (.lst (zaQ i k (n3 i j k))) s1 else .no | _=>.no:=id rfl
end
open PySem.W
theorem qr{α β:Type}{n:Nat}{lt:Nat->Nat->Bool}(f:α->KasT β):∀t:KasT α,kev n lt (t.bind f)=(kev n lt t).bind λa=>kev n lt (f a)
 | .ret a=>rfl | .ask i j k=>by
  show (if i<n/\j<n then kev n lt ((k (lt i j)).bind f) else none)=(if i<n/\j<n then kev n lt (k (lt i j)) else none).bind _;split;·exact qr f _
  ·rfl
section
variable {N:Nat}{lt:Nat->Nat->Bool}(tot:∀i j,i<N->j<N->i≠j->lt j i=!lt i j)(tr:∀i j k,lt i j=true->lt j k=true->lt i k=true)
abbrev at0(p:Array Nat)(i:Nat):Nat:=p.getD i 0
structure PmN(N:Nat)(p:Array Nat):Prop where pm:p.toList.Perm (List.range N)
theorem PmN.size{p:Array Nat}(h:PmN N p):p.size=N:=by have:=h.pm.length_eq;simpa using this
theorem PmN.bd{p:Array Nat}(h:PmN N p){i:Nat}(hi:i<N):at0 p i<N:=by
 have hs:=h.size;have:at0 p i∈p.toList:=by
  rw[at0,Array.getD,dif_pos (by omega)];exact Array.getElem_mem_toList _
 exact _aI.mp (h.pm.mem_iff.mp this)
theorem PmN.ne {p:Array Nat} (h:PmN N p) {i j:Nat} (hi:i<N) (hj:j<N) (hij:i≠j):at0 p i≠at0 p j:=λz=>by
 have hs:=h.size;have nd:p.toList.Nodup:=h.pm.nodup_iff.mpr List.nodup_range;rw[at0,at0,Array.getD,Array.getD,dif_pos (by omega),dif_pos (by omega)]at z;have:=(_b8 (i:=i) (j:=j) (h₀:=by simpa using (by omega:i<p.size)) (h₁:=by simpa using (by omega:j<p.size)) nd).mp (by simpa using z);exact hij this
theorem PmN.of{p q:Array Nat}(h:PmN N p)(e:q.Perm p):PmN N q:=⟨(Array.perm_iff_toList_perm.mp e).trans h.pm⟩
def Asc(lt:Nat->Nat->Bool)(p:Array Nat)(k:Nat):Prop:=∀i j,i<j->j<k->lt (at0 p i) (at0 p j)=true
def Des(lt:Nat->Nat->Bool)(p:Array Nat)(k:Nat):Prop:=∀i j,i<j->j<k->lt (at0 p j) (at0 p i)=true
include tr
theorem Asc.more{p:Array Nat}{k:Nat}(h:Asc lt p k)(h1:1<=k)(e:lt (at0 p (k-1)) (at0 p k)=true):Asc lt p (k+1):=λi j hij hj=>by
 by_cases q:j=k
 ·subst q;by_cases q2:i=j-1;·subst q2;exact e
  ·exact tr _ _ _ (h i (j-1) (by omega) (by omega)) e
 ·exact h i j hij (by omega)
theorem Des.more{p:Array Nat}{k:Nat}(h:Des lt p k)(h1:1<=k)(e:lt (at0 p k) (at0 p (k-1))=true):Des lt p (k+1):=λi j hij hj=>by
 by_cases q:j=k
 ·subst q;by_cases q2:i=j-1;·subst q2;exact e
  ·exact tr _ _ _ e (h i (j-1) (by omega) (by omega))
 ·exact h i j hij (by omega)
include tot
theorem z4X{p:Array Nat}(P:PmN N p):∀(f n0:Nat),1<=n0->n0+f<=N->Asc lt p n0->∃m,kev N lt (kas_asc p f n0)=some m/\n0<=m/\m<=n0+f/\Asc lt p m/\(m<n0+f->lt (at0 p m) (at0 p (m-1))=true)
 | 0,n0,h1,hN,ha=>⟨n0,rfl,_h _,_h _,ha,λz=>absurd z (by omega)⟩ | f+1,n0,h1,hN,ha=>by
  have b1:=P.bd (i:=n0) (by omega);have b2:=P.bd (i:=n0-1) (by omega);by_cases c:lt (at0 p n0) (at0 p (n0-1))=true
  ·refine⟨n0,?_,_h _,by omega,ha,λ_=>c⟩;show (if at0 p n0<N/\at0 p (n0-1)<N then kev N lt (if lt (at0 p n0) (at0 p (n0-1))=true then KasT.ret n0 else kas_asc p f (n0+1)) else none)=_;rw[_e ⟨b1,b2⟩,_e c];rfl
  ·have e:lt (at0 p (n0-1)) (at0 p n0)=true:=by
    rw[tot _ _ b1 b2 (P.ne (by omega) (by omega) (by omega))];simpa using c
   obtain⟨m,e1,e2,e3,e4,e5⟩:=z4X P f (n0+1) (by omega) (by omega) (ha.more tr h1 e);refine⟨m,?_,by omega,by omega,e4,λz=>e5 (by omega)⟩;show (if at0 p n0<N/\at0 p (n0-1)<N then kev N lt (if lt (at0 p n0) (at0 p (n0-1))=true then KasT.ret n0 else kas_asc p f (n0+1)) else none)=_;rw[_e ⟨b1,b2⟩,_j c];exact e1
theorem z7K{p:Array Nat}(P:PmN N p):∀(f n0:Nat),1<=n0->n0+f<=N->Des lt p n0->∃m,kev N lt (kas_desc f p n0 0)=some (p,m,0)/\n0<=m/\m<=n0+f/\Des lt p m
 | 0,n0,h1,hN,ha=>⟨n0,rfl,_h _,_h _,ha⟩ | f+1,n0,h1,hN,ha=>by
  have b1:=P.bd (i:=n0) (by omega);have b2:=P.bd (i:=n0-1) (by omega);by_cases c:lt (at0 p n0) (at0 p (n0-1))=true
  ·obtain⟨m,e1,e2,e3,e4⟩:=z7K P f (n0+1) (by omega) (by omega) (ha.more tr h1 c);refine⟨m,?_,by omega,by omega,e4⟩;show (if at0 p n0<N/\at0 p (n0-1)<N then kev N lt (if lt (at0 p n0) (at0 p (n0-1))=true then (if 0 > 0 then kas_desc f (kas_rev p (n0-(0+1)) n0) (n0+1) 0 else kas_desc f p (n0+1) 0) else _) else none)=_;rw[_e ⟨b1,b2⟩,_e c,_j (by omega)];exact e1
  ·have e:lt (at0 p (n0-1)) (at0 p n0)=true:=by
    rw[tot _ _ b1 b2 (P.ne (by omega) (by omega) (by omega))];simpa using c
   refine⟨n0,?_,_h _,by omega,ha⟩;show (if at0 p n0<N/\at0 p (n0-1)<N then kev N lt (if lt (at0 p n0) (at0 p (n0-1))=true then _ else KasT.ask (at0 p (n0-1)) (at0 p n0) λd=>if d=true then .ret (p,n0,0) else kas_desc f p (n0+1) (0+1)) else none)=_;rw[_e ⟨b1,b2⟩,_j c];show (if at0 p (n0-1)<N/\at0 p n0<N then kev N lt (if lt (at0 p (n0-1)) (at0 p n0)=true then .ret (p,n0,0) else kas_desc f p (n0+1) (0+1)) else none)=_;rw[_e ⟨b2,b1⟩,_e e];rfl
omit tot tr in
theorem zep {p:Array Nat} {m i:Nat} (hm:m<=p.size) (hi:i<m):at0 (kas_rev p 0 m) i=at0 p (m-1-i):=by
 have e:=getElem?_mirror_all (xs:=p) (i:=0) (j:=m) hm i;rw[_e ⟨_am _,hi⟩]at e;simp only[at0,Array.getD_eq_getD_getElem?,kas_rev];rw[e];simp
theorem zaj{p:Array Nat}(P:PmN N p)(hN:1<=N):∃m p',kev N lt (kas_count N p)=some (m,p')/\PmN N p'/\Asc lt p' m/\1<=m/\m<=N:=by
 obtain⟨m,e1,e2,e3,e4,e5⟩:=z4X tot tr P (N-1) 1 (_h _) (by omega) (λi j h1 h2=>by omega);unfold kas_count;rw[qr,e1];simp only[_A];by_cases q:m=N
 ·rw[_e (by simpa using q)];exact⟨m,p,rfl,P,e4,e2,by omega⟩
 ·rw[_j (by simpa using q)];by_cases q1:m > 1
  ·rw[_e q1];have b1:=P.bd (i:=0) (by omega);have b2:=P.bd (i:=m-1) (by omega);have c:=e4 0 (m-1) (by omega) (by omega);refine⟨m,p,?_,P,e4,e2,by omega⟩;show (if at0 p 0<N/\at0 p (m-1)<N then kev N lt (if lt (at0 p 0) (at0 p (m-1))=true then KasT.ret (m,p) else _) else none)=_;rw[_e ⟨b1,b2⟩,_e c];rfl
  ·rw[_j q1];have m1:m=1:=by omega
   subst m1;have c:=e5 (by omega);obtain⟨k,f1,f2,f3,f4⟩:=z7K tot tr P (N-(1+1)) (1+1) (by omega) (by omega) (λi j h1 h2=>by
    have:i=0:=by omega
    have:j=1:=by omega
    subst i;subst j;exact c);unfold kas_descPart;rw[qr,f1];simp only[_A];rw[_j (by omega)];unfold kas_tail3;have P2:PmN N (kas_rev p 0 k):=P.of (mirror_perm _ _ _ _);have sz:=P.size;have as2:Asc lt (kas_rev p 0 k) k:=λi j h1 h2=>by
    rw[zep (by omega) (by omega),zep (by omega) (by omega)];exact f4 _ _ (by omega) (by omega)
   obtain⟨m2,g1,g2,g3,g4,_⟩:=z4X tot tr P2 (N-k) k (by omega) (by omega) as2;rw[qr,g1];exact⟨m2,kas_rev p 0 k,rfl,P2,g4,by omega,by omega⟩
theorem z1H{p:Array Nat}(P:PmN N p){k:Nat}(hk:k<N)(ha:Asc lt p k):∀(f l r:Nat),l<=r->r<=k->r-l<=f->(∀i,i<l->lt (at0 p i) (at0 p k)=true)->(∀i,r<=i->i<k->lt (at0 p k) (at0 p i)=true)-> ∃m,kev N lt (kas_place p k f l r)=some m/\m<=k/\(∀i,i<m->lt (at0 p i) (at0 p k)=true)/\∀i,m<=i->i<k->lt (at0 p k) (at0 p i)=true
 | 0,l,r,h1,h2,h3,hl,hr=>⟨l,rfl,by omega,hl,λi z1 z2=>hr i (by omega) z2⟩ | f+1,l,r,h1,h2,h3,hl,hr=>by
  by_cases q:l ≥ r
  ·refine⟨l,?_,by omega,hl,λi z1 z2=>hr i (by omega) z2⟩;rw[kas_place,_e q];rfl
  ·have b1:=P.bd (i:=k) hk;have b2:=P.bd (i:=(l+r) / 2) (by omega);by_cases c:lt (at0 p k) (at0 p ((l+r) / 2))=true
   ·obtain⟨m,e1,e2,e3,e4⟩:=z1H P hk ha f l ((l+r) / 2) (by omega) (by omega) (by omega) hl (λi z1 z2=>by
     by_cases z:i=(l+r) / 2;·subst z;exact c
     ·exact tr _ _ _ c (ha _ _ (by omega) z2));refine⟨m,?_,e2,e3,e4⟩;rw[kas_place,_j q];show (if at0 p k<N/\at0 p ((l+r) / 2)<N then kev N lt (if lt (at0 p k) (at0 p ((l+r) / 2))=true then kas_place p k f l ((l+r) / 2) else _) else none)=_;rw[_e ⟨b1,b2⟩,_e c];exact e1
   ·have e:lt (at0 p ((l+r) / 2)) (at0 p k)=true:=by
     rw[tot _ _ b1 b2 (P.ne hk (by omega) (by omega))];simpa using c
    obtain⟨m,e1,e2,e3,e4⟩:=z1H P hk ha f ((l+r) / 2+1) r (by omega) h2 (by omega) (λi z1=>by
     by_cases z:i=(l+r) / 2;·subst z;exact e
     ·exact tr _ _ _ (ha _ _ (by omega) (by omega)) e) hr;refine⟨m,?_,e2,e3,e4⟩;rw[kas_place,_j q];show (if at0 p k<N/\at0 p ((l+r) / 2)<N then kev N lt (if lt (at0 p k) (at0 p ((l+r) / 2))=true then _ else kas_place p k f ((l+r) / 2+1) r) else none)=_;rw[_e ⟨b1,b2⟩,_j c];exact e1
omit tot tr in
theorem zdW {p:Array Nat} {k l i:Nat} (hk:k<p.size) (hl:l<=k) (hi:i<=k):at0 (bubble p k (k-l)) i=if i=l then at0 p k else if l<i then at0 p (i-1) else at0 p i:=by
 have e:=getElem?_bubble (xs:=p) (src:=k) hk (k-l) (by omega) i;simp only[at0,Array.getD_eq_getD_getElem?];rw[e];by_cases q:i=l;·rw[_e (by omega),_e q]
 ·rw[_j (by omega),_j q];by_cases q2:l<i;·rw[_e (by omega),_e q2]
  ·rw[_j (by omega),_j q2]
theorem za9:∀(f k:Nat)(p:Array Nat),PmN N p->k+f=N->Asc lt p k->∃p',kev N lt (kas_bin f p k)=some p'/\PmN N p'/\Asc lt p' N
 | 0,k,p,P,hk,ha=>⟨p,rfl,P,by rw[<- hk];exact ha⟩ | f+1,k,p,P,hk,ha=>by
  obtain⟨l,e1,e2,e3,e4⟩:=z1H tot tr P (k:=k) (by omega) ha k 0 k (_am _) (_h _) (by omega) (λi z=>absurd z (by omega)) (λi z1 z2=>absurd z1 (by omega));have sz:=P.size;have P2:PmN N (bubble p k (k-l)):=P.of (bubble_perm _ _ _);have as2:Asc lt (bubble p k (k-l)) (k+1):=λi j h1 h2=>by
   rw[zdW (by omega) e2 (by omega),zdW (by omega) e2 (by omega)];by_cases qi:i=l
   ·rw[_e qi,_j (by omega),_e (by omega)];exact e4 (j-1) (by omega) (by omega)
   ·rw [_j qi];by_cases qj:j=l
    ·rw[_e qj,_j (by omega)];exact e3 i (by omega)
    ·rw[_j qj];by_cases q1:l<i
     ·rw[_e q1,_e (by omega)];exact ha _ _ (by omega) (by omega)
     ·rw[_j q1];by_cases q2:l<j
      ·rw[_e q2];by_cases q3:j-1=i;·omega
       ·exact ha _ _ (by omega) (by omega)
      ·rw[_j q2];exact ha _ _ h1 (by omega)
  obtain⟨p',g1,g2,g3⟩:=za9 f (k+1) _ P2 (by omega) as2;refine⟨p',?_,g2,g3⟩;rw[kas_bin,qr,e1];exact g1
theorem zco(hN:1<=N):∃p,kev N lt (kas_sort N)=some p/\p.toList.Perm (List.range N)/\p.toList.Pairwise λi j=>lt i j=true:=by
 have P:PmN N (List.toArray (List.range N)):=⟨by simp⟩;obtain⟨m,p,e1,e2,e3,e4,e5⟩:=zaj tot tr P hN;have fin:∀p:Array Nat,PmN N p->Asc lt p N->p.toList.Pairwise λi j=>lt i j=true:=λp P ha=>by
  rw[List.pairwise_iff_getElem];intro i j hi hj hij;have sz:=P.size;have hj':j<p.size:=by simpa using hj
  have:=ha i j hij (by omega);rw[at0,at0,Array.getD,Array.getD,dif_pos (by omega),dif_pos hj']at this;simpa using this
 unfold kas_sort;rw[qr,e1];simp only[_A];by_cases q:m<N
 ·rw[_e q];have hm:max m 1=m:=by omega
  rw[hm];obtain⟨p',g1,g2,g3⟩:=za9 tot tr (N-m) m p e2 (by omega) e3;exact⟨p',g1,g2.pm,fin p' g2 g3⟩
 ·rw[_j q];have:m=N:=by omega
  subst this;exact⟨p,rfl,e2.pm,fin p e2 e3⟩
end
noncomputable def zau(fin:Bool):List Int->List Int->Bool
 | x::a,y::b=>if x=y then zau fin a b else decide (x<y) | _,_=>fin
theorem zey:∀ns ms:List Int,zau (decide (ns.length<ms.length)) ns ms=lexN ns ms
 | [],[]=>by simp[zau,lexN] | [],_::_=>by simp[zau,lexN] | _::_,[]=>by simp[zau,lexN] | x::a,y::b=>by
  have:=zey a b;simp only[zau,lexN,_g,Nat.add_lt_add_iff_right,this]
def TupAt(h:Heap)(v:Value)(ns:List Int):Prop:=∃a o n us,v=.ref a/\h.get? a=some o/\o.cls=.type "tuple"/\o.data=.seq us n/\yK us.toList ns/\ns≠[]
inductive wm (h:Heap):List Value->List (List Int)->Prop | nil:wm h [] [] | cons {v p vs ps}:TupAt h v p->wm h vs ps->wm h (v::vs) (p::ps)
theorem wm.length{h:Heap}:∀{vs ps},wm h vs ps->vs.length=ps.length
 | _,_,.nil=>rfl | _,_,.cons _ r=>by simp[r.length]
theorem wm.at_{h:Heap}:∀{vs ps},wm h vs ps->∀i,i<ps.length->TupAt h (vs.getD i .none) (ps.getD i [])
 | _,_,.nil,i,hi=>by simp at hi | _,_,.cons p r,0,_=>by simpa using p | _,_,.cons p r,i+1,hi=>by simpa using r.at_ i (by simpa using hi)
theorem wm.mono{h h':Heap}(k:∀b o,h.get? b=some o->h'.get? b=some o):∀{vs ps},wm h vs ps->wm h' vs ps
 | _,_,.nil=>.nil | _,_,.cons ⟨a,o,n,us,e,g,c,d,i,z⟩ r=>.cons ⟨a,o,n,us,e,k _ _ g,c,d,i,z⟩ (r.mono k)
theorem wm.tups{h:Heap}:∀{vs ps},wm h vs ps->∃fs,KatTups h vs fs/\fs.length=ps.length/\∀v∈fs,∃i t,v=.int i t
 | _,_,.nil=>⟨[],KatTups.nil,rfl,λv hv=>by cases hv⟩ | _,_,.cons (p:=p) ⟨a,o,n,us,e,g,c,d,i,z⟩ r=>by
  obtain⟨fs,k,l,m⟩:=r.tups;subst e;obtain⟨ul⟩:=us;cases i with
  | nil=>exact absurd rfl z | @cons x t ws ns i'=>
   refine⟨.int x t::fs,KatTups.cons g c d rfl k,by simp[l],λv hv=>?_⟩;rcases _q.mp hv with rfl | hv;·exact⟨_,_,rfl⟩
   ·exact m v hv
section
variable {prog:Program}{w:World}{A:Around}{E:Value->Shared->Prop}{s:Shared}
theorem z89 {fin:Bool} {C:Bool->Shared->Prop}:∀{xs ys:List Value} {ns ms:List Int} (i:Nat),yK xs ns->yK ys ms->C (zau fin ns ms) s->KatLex prog w A true fin C (xs.zip ys) i s
 | _,_,_,_,i,.nil,_,h=>by
  simp only[List.zip_nil_left];refine kat_nil ?_;simpa[zau] using h | _,_,_,_,i,.cons _,.nil,h=>by
  simp only[List.zip_nil_right];refine kat_nil ?_;simpa[zau] using h | _,_,_,_,i,.cons (i:=x) (t:=t) r,.cons (i:=y) (t:=t') r',h=>by
  simp only[List.zip_cons_cons];refine kat_cons (_b7 (kat_go (λe=>kat_yes (z89 (i+1) r r' ?_)) λe=>kat_no ?_))
  ·have e1:x=y:=by simpa using e
   simpa[zau,e1] using h
  ·have e1:¬ x=y:=by simpa using e
   have h':C (decide (x<y)) s:=by simpa[zau,e1] using h
   cases i with
   | zero=>
    have hb:(true&&((0:Nat)==0))=true:=rfl;rw[hb];exact oneLt_int h' | succ i=>
    have hb:(true&&((i+1:Nat)==0))=false:=by simp
    rw[hb];exact kat_one _ _ (_cr h')
theorem zfI{v u:Value}{p q:List Int}{C:Bool->Shared->Prop}(hv:TupAt s.heap v p)(hu:TupAt s.heap u q)(h:C (lexN p q) s):wpAny (model prog w) A (keyLt' (tuples' true) v u) C E s:=by
 obtain⟨a,o,n,us,rfl,g,c,d,i,_⟩:=hv;obtain⟨b,o',n',us',rfl,g',c',d',i',_⟩:=hu;refine kat_lt g d g' d' (z89 0 i i' ?_);have e:decide (us.size<us'.size)=decide (p.length<q.length):=by
  have:=i.length;have:=i'.length;simp only[_a5]at *;simp[*]
 rw[e,zey];exact h
theorem zb5{vs:List Value}{ps:List (List Int)}{Q:SortKind->Shared->Prop}(hp:wm s.heap vs ps)(h0:0<ps.length)(h:Q (tuples' true) s):wpAny (model prog w) A (keyKind' vs.toArray) Q E s:=by
 obtain⟨fs,k,l,m⟩:=hp.tups;refine kat_kind (T:=.type "int") k (by rw[l];exact h0) (λv hv=>?_) rfl h;obtain⟨i,t,rfl⟩:=m v hv;exact Looks.of_pure rfl
theorem zgC{κ:SortKind}{it:Array Keyed}{n:Nat}{Q:Unit->SortSt->Shared->Prop}{G:Array Nat->Shared->Prop}(h2:2<=n) (hG:∀p' st' s',p'.size=n->arrOf st'=p'.map (kas_item it)->failedOf st'=none->G p' s'->Q () st' s')(h:(kas_count n (List.toArray (List.range n))).kasWp (kas_cmp prog w A κ it) (λr s'=>r.1=n/\G r.2 s') s): kasC (model prog w) A E sortRuns' Q (kas_st κ it (List.toArray (List.range n))) s:=by
 obtain⟨r,rfl⟩:∃r,n=r+2:=⟨n-2,by omega⟩;have hrs:(List.toArray (List.range (r+2))).size=r+2:=by simp
 rw[sortRuns'_eq];refine kasC_bind (kasC_get ?_);dsimp only;have hsz:(arrOf (kas_st κ it (List.toArray (List.range (r+2))))).size=r+2:=by
  show ((List.toArray (List.range (r+2))).map (kas_item it)).size=_;rw[Array.size_map,hrs]
 have hmr:∀f m c,m+c<=r+2->1<=m->minRun' f m c<=r+2:=by
  intro f;induction f with
  | zero=>intro m c h _;exact h | succ f ih=>
   intro m c h h1;rw[minRun'_succ];split;·exact h
   ·exact ih _ _ (by omega) (by omega)
 have hmr:=hmr (r+2) (r+2) 0 (_h _) (by omega);simp only[hsz];generalize minRun' (r+2) (r+2) 0=mr at hmr;refine kasC_bind (kasC_range ?_);show kasC _ _ _ (forIn (0::1::List.range' 2 r) _ _) _ _ _;refine kasC_cons ?_;dsimp only;rw[_j (by omega)];simp only[Nat.sub_zero,_E];refine kasC_bind (kas_count_ (by omega) (by rw[hrs];exact _h _) (λm p' s' hm1 hm2 hp hg=>?_) h);have hps:p'.size=r+2:=hp.trans hrs;obtain⟨em,hg'⟩:=hg;have em':m=r+2:=em;subst em';dsimp only;rw[_j (by omega)];refine kasC_bind (kasC_get ?_);rw[show (pendingOf (kas_st κ it p')).back? = none from rfl];dsimp only;refine kasC_bind (kasC_modify (kasC_pure ?_));show kasC _ _ _ (forIn (1::List.range' 2 r) _ _) _ _ _;refine kasC_cons ?_;dsimp only;rw[_e (_h _)];refine kasC_pure ?_;dsimp only;refine kasC_bind (kasC_range ?_);show kasC _ _ _ (forIn (0::1::List.range' 2 r) _ _) _ _ _;refine kasC_cons ?_;refine kasC_bind (kasC_get ?_);rw[_e (show (pendingOf (setPending (kas_st κ it p') ((pendingOf (kas_st κ it p')).push (0,r+2,0)))).size<=1 from _h 1)];refine kasC_pure ?_;dsimp only;exact kasC_pure (hG p' _ _ hps rfl rfl hg')
def zii(ps:List (List Int))(p:Array Nat):Prop:= (ps.length<2/\p=List.toArray (List.range ps.length))\/ (2<=ps.length/\ps.length<64/\kev ps.length (λi j=>lexN (ps.getD i []) (ps.getD j [])) (kas_sort ps.length)=some p)\/ (2<=ps.length/\kev ps.length (λi j=>lexN (ps.getD i []) (ps.getD j [])) (kas_count ps.length (List.toArray (List.range ps.length)))=some (ps.length,p))
theorem zcp {vs:List Value} {ps:List (List Int)} {p:Array Nat} {Q:SortSt->Shared->Prop} (hp:wm s.heap vs ps) (h2:2<=ps.length) (hP:zii ps p) (h:∀st',p.size=vs.length->arrOf st'=p.map (kas_item (vs.toArray.zip vs.toArray))->failedOf st'=none->Q st' s): wpAny (model prog w) A ((sortRuns').run (SortSt.mk' (tuples' true) (vs.toArray.zip vs.toArray) #[] 7 none)) (λr s'=>Q r.2 s') E s:=by
 have lenP:=hp.length;have cmp:∀i j (C:Bool->Shared->Prop),i<ps.length->j<ps.length->C (lexN (ps.getD i []) (ps.getD j [])) s->kas_ask prog w A (tuples' true) vs i j C s:=λi j C hi hj hC=>zfI (hp.at_ i hi) (hp.at_ j hj) hC;rcases hP with⟨z,_⟩ | ⟨_,h64,e⟩ | ⟨_,e⟩;·omega
 ·refine kat_run (ks:=vs) (vs:=vs) (G:=λq s'=>q=p/\s'=s) rfl (by omega) (by omega) (λq st' s' a1 a2 a3 a4=>?_) (zbC (n:=ps.length) cmp _ p (by rw[lenP];exact e) ⟨rfl,rfl⟩);obtain⟨rfl,rfl⟩:=a4;exact h st' a1 a2 a3
 ·have hc:(kas_count vs.length (List.toArray (List.range vs.length))).kasWp (kas_cmp prog w A (tuples' true) (vs.toArray.zip vs.toArray)) (λr s'=>r.1=vs.length/\(r.2=p/\s'=s)) s:=by
   rw[<- kat_ask_eq (ks:=vs) (vs:=vs) rfl];refine zbC (n:=ps.length) cmp _ (ps.length,p) (by rw[lenP];exact e) ⟨lenP.symm,rfl,rfl⟩
  have run:=zgC (E:=E) (Q:=λ_ st' s'=>Q st' s') (G:=λq s'=>q=p/\s'=s) (by omega) (λq st' s' a1 a2 a3 a4=>by obtain⟨rfl,rfl⟩:=a4;exact h st' a1 a2 a3) hc;have est:SortSt.mk' (tuples' true) (vs.toArray.zip vs.toArray) #[] 7 none=kas_st (tuples' true) (vs.toArray.zip vs.toArray) (List.toArray (List.range vs.length)):=by
   have e:=kas_range (vs.toArray.zip vs.toArray);rw[show (vs.toArray.zip vs.toArray).size=vs.length by simp]at e;show SortSt.mk' (tuples' true) (vs.toArray.zip vs.toArray) #[] 7 none=SortSt.mk' (tuples' true) ((List.toArray (List.range vs.length)).map (kas_item (vs.toArray.zip vs.toArray))) #[] 7 none;rw[e]
  rw[est];exact run
theorem z52 {a:Addr} {vs:List Value} {ps:List (List Int)} {n:Nat} {p:Array Nat} {P:PySem.Fin->Shared->Prop} (ho:s.heap.get? a=some (seqObj "list" vs.toArray n)) (hp:∀h',(∀b o,b≠a->s.heap.get? b=some o->h'.get? b=some o)->wm h' vs ps) (hline:vs.length<=sizeLine) (hP:zii ps p) (h:P (.done (.ret .none)) {s with heap:=sortedHeap s.heap a vs (z8Y vs p)}):wpAny (model prog w) A (Builtin.«list.sort» ⟨[.ref a],[]⟩) P E s:=by
 have ha:a<s.heap.objs.size:=_m ho;have lenP:vs.length=ps.length:=(hp s.heap λ_ _ _ e=>e).length;obtain⟨e1,g1⟩:∃e1,(s.heap.update a (Obj.mapSeq λ_=>(#[]:Array Value))).get? a=some (seqObj "list" #[] e1):=⟨_,get?_update_seq ho λ_=>#[]⟩;have g2:(((s.heap.update a (Obj.mapSeq λ_=>(#[]:Array Value))).push (seqObj "tuple" vs.toArray 0)).push (seqObj "list" #[] 0)).get? a=some (seqObj "list" #[] e1):=_d _ (_d _ g1);have hp1:wm (((s.heap.update a (Obj.mapSeq λ_=>(#[]:Array Value))).push (seqObj "tuple" vs.toArray 0)).push (seqObj "list" #[] 0)) vs ps:=hp _ λb o hb e=> _d _ (_d _ (((_a6 s.heap a (Obj.mapSeq λ_=>(#[]:Array Value))).2 b hb).trans e));rw[list_sort_plain];refine _a (listItems_at ho rfl (_a (listUpdate_at ho rfl (_a (seqEpoch_at g1 rfl (_a (wpAny_newTuple (_a (wpAny_newList (_aG ?_) (_am _))) hline)))) (by rw[_k];exact hline) (_am _))));dsimp only;by_cases big:vs.toArray.size<2
 ·rw[_e big,_e big];have small:vs.length<2:=by simpa using big
  have ep:p=List.toArray (List.range ps.length):=by
   rcases hP with⟨_,z⟩ | ⟨z,_⟩ | ⟨z,_⟩;·exact z
   ·omega
   ·omega
  have eo:z8Y vs p=vs.toArray:=by
   rw[ep,<- lenP];unfold z8Y;congr 1;apply _bB;·simp
   ·intro i h1 h2;simp[h2]
  refine _a (_b (_a (_b ?_)));dsimp only;have out:(arrOf (SortSt.mk' general' (vs.toArray.zip vs.toArray) #[] 7 none)).map (·.2)=vs.toArray:=by
   show ((vs.toArray.zip vs.toArray).map (·.2))=_;apply Array.ext_getElem?;intro i;by_cases hi:i<vs.length<;>simp[hi]
  rw[out];refine _a (seqEpoch_at g2 rfl (_a (listUpdate_at g2 rfl ?_ (_am _) (by rw[_k];exact Nat.le_succ_of_le hline))));simp only[bne_self_eq_false,_ai,_aB];rw[eo]at h;exact _b h
 ·rw[_j big,_j big];have b2:2<=ps.length:=by rw[<- lenP];simpa using big
  refine _a (zb5 (s:={s with heap:=((s.heap.update a (Obj.mapSeq λ_=>(#[]:Array Value))).push (seqObj "tuple" vs.toArray 0)).push (seqObj "list" #[] 0)}) hp1 (by omega) ?_);refine _a (_r (zcp (s:={s with heap:=((s.heap.update a (Obj.mapSeq λ_=>(#[]:Array Value))).push (seqObj "tuple" vs.toArray 0)).push (seqObj "list" #[] 0)}) (p:=p) (Q:=λst' s'=>p.size=vs.length/\arrOf st'=p.map (kas_item (vs.toArray.zip vs.toArray))/\failedOf st'=none/\s'={s with heap:=((s.heap.update a (Obj.mapSeq λ_=>(#[]:Array Value))).push (seqObj "tuple" vs.toArray 0)).push (seqObj "list" #[] 0)}) hp1 b2 hP λst' a1 a2 a3=>⟨a1,a2,a3,rfl⟩) ?_ λ_ _ z=>z);rintro⟨⟨⟩,st'⟩ s' ⟨hq,har,hf,rfl⟩;dsimp only;have out:=kat_snds (ks:=vs) (vs:=vs) rfl har;rw[out,hf];refine _a (seqEpoch_at g2 rfl (_a (listUpdate_at g2 rfl ?_ (_am _) (by rw[_k,_I,_a5,hq];exact Nat.le_succ_of_le hline))));simp only[bne_self_eq_false,_ai,_aB];exact _b h
theorem z9j {l:Addr} {vs:List Value} {ps:List (List Int)} {p:Array Nat} {Q:Value->Shared->Prop} (hl:s.heap.IsList l vs.toArray) (hp:wm s.heap vs ps) (hline:vs.length<=sizeLine) (hP:zii ps p) (h:Q (.ref (s.heap.objs.size+1)) {s with heap:=sortedAll s.heap vs (z8Y vs p)}): wpAny (model prog w) A (call (.builtin "sorted") [.ref l]) Q E s:=by
 refine Calls.call_function_entry kind_sorted plain_sorted entry_sorted (args_sorted1 _) ?_;unfold Builtin.«sorted»;refine _a (m:=checkCount "sorted" 1 1 _) (_b (_a (collect_list hl (_a (wpAny_newList ?_ (by simpa using hline))) (by simpa using hline))));have sz:((s.heap.push (seqObj "list" #[] 0)).update s.heap.objs.size (Obj.mapSeq (· ++ vs.toArray))).objs.size=s.heap.objs.size+1:=by rw[Heap.size_update,size_push']
 have g:(((s.heap.push (seqObj "list" #[] 0)).update s.heap.objs.size (Obj.mapSeq (· ++ vs.toArray))).push (seqObj "list" vs.toArray 0)).get? (s.heap.objs.size+1)=some (seqObj "list" vs.toArray 0):=by
  rw[<- sz];exact _n _ rfl
 have keep:∀b o,s.heap.get? b=some o->(((s.heap.push (seqObj "list" #[] 0)).update s.heap.objs.size (Obj.mapSeq (· ++ vs.toArray))).push (seqObj "list" vs.toArray 0)).get? b=some o/\b≠s.heap.objs.size+1:=λb o q=>by
  have lt:b<s.heap.objs.size:=_m q;refine⟨?_,_y (_aJ lt)⟩;rw[Heap.get?_push_ne _ _ _ (by rw[sz];exact _y (_aJ lt)),Heap.get?_update_ne _ _ _ _ (_y lt),Heap.get?_push_ne _ _ _ (_y lt)];exact q
 show wpAny (model prog w) _ _ _ _ {s with heap:=((s.heap.push (seqObj "list" #[] 0)).update s.heap.objs.size (Obj.mapSeq (· ++ vs.toArray))).push (seqObj "list" vs.toArray 0)};rw[sz];exact _a (_aG (_T slot_list_sort ⟨_,g,rfl⟩ entry_list_sort (z52 g (λh' k=>hp.mono λb o q=>k b o (keep b o q).2 (keep b o q).1) hline hP ⟨_,rfl,_b ⟨_,rfl,h⟩⟩) (args_list_sort _)))
end
section
variable {X:Cx}{E:XK}
def zdZ(K:W.Frag):List V->Hp->VK->Prop:=λxs H Q=>∃(l:Addr)(ys:List V)(ps:List (List Int))(p:Array Nat),xs=[.ref l]/\SqL K H l ys/\Paired (λv ns=>AtN H v ns) ys ps/\(∀n∈ps,n≠[])/\zii ps p/\ (∀i∈p.toList,i<ys.length)/\p.toList.length=ys.length/\∀r,H r=none->Q (.ref r) (upd H r (.lst (p.toList.map λi=>ys.getD i .non)))
theorem zbo{pins:List (Addr×Obj)}{O:L2.St}{H:Hp}{s:Shared}(I:Inv X pins O H s):∀{ys:List V}{its:List Value}{ps:List (List Int)},yw ys its->Paired (λv ns=>AtN H v ns) ys ps->(∀n∈ps,n≠[])->wm s.heap its ps
 | [],_,_,.nil,.nil,_=>.nil | y::ys,_,_,.cons r rs,.cons a p,hn=>by
  refine .cons ?_ (zbo I rs p λn hm=>hn n (.tail _ hm));obtain⟨b,its,rfl,rfl,⟨o,g,c,k,d⟩,z⟩:=a.tuple I r;exact⟨b,o,k,its,rfl,g,c,d,z,hn _ (.head _)⟩
theorem z8V:xF X (.builtin "sorted") (zdZ X.K):=by
 intro pins s O H xs us Q I r h;obtain⟨l,ys,ps,p,rfl,hq,hp,hn,hP,hin,hpl,q⟩:=h;obtain⟨u,rfl,rx⟩:=vals1 r;cases rx;obtain⟨its,r',pl,hz⟩:=I.list hq;have hlen:=r'.length;refine z9j (ps:=ps) (p:=p) pl.isList (zbo I r' hp hn) (by omega) hP ?_;obtain⟨c',e⟩:=sortedAll_at s.heap its (z8Y its p);refine⟨.ref (s.heap.objs.size+1),_,I.laid (t':=s.toks) (λb o z=>sortedAll_old z) (Nat.le_succ _) (show yM X.prog X.w _ (sortedAll s.heap its (z8Y its p)) _ (.lst (p.toList.map λi=>ys.getD i .non)) from⟨?_,_,c',z7Q r' p.toList hin,e⟩),rfl,q _ (I.hok.fresh (Nat.le_succ _))⟩;rw[_I,hpl];exact hz
noncomputable def ziN(L:List (List Int)):Option (Array Nat):= if L.length<2 then some (List.toArray (List.range L.length)) else if L.length<64 then kev L.length (λi j=>lexN (L.getD i []) (L.getD j [])) (kas_sort L.length) else match kev L.length (λi j=>lexN (L.getD i []) (L.getD j [])) (kas_count L.length (List.toArray (List.range L.length))) with
  | some (m,p)=>if m=L.length then some p else none | none=>none
theorem zaw{L:List (List Int)}{p:Array Nat}(h:ziN L=some p):zii L p:=by
 unfold ziN at h;split at h;·rename_i q;exact .inl ⟨q,(_K h).symm⟩
 ·split at h;·rename_i q1 q2;exact .inr (.inl ⟨by omega,q2,h⟩)
  ·split at h
   ·rename_i m q e;split at h
    ·rename_i em;cases h;subst em;exact .inr (.inr ⟨by omega,e⟩)
    ·cases h
   ·cases h
noncomputable def zc2(s:Sto)(d:D):Option (List D):=match listOf s d with
 | some xs=>match z5m xs with
  | some L=>match ziN L with
   | some p=>if L.all (λn=>!n.isEmpty)=true/\p.toList.all (λi=>decide (i<xs.length))=true/\p.toList.length=xs.length then some (p.toList.map λi=>xs.getD i .non) else none | none=>none
  | none=>none
 | none=>none
noncomputable def z1V:Mir:=λds s=>match ds with
 | [d]=>match zc2 s d with | some ys=>if D.flat.flats ys=true then .ok (.loc s.length) (s++[ys]) else .no | none=>.no
 | _=>.no
theorem zg9{H:Hp}{Y:List Addr}{s:Sto}{d:D}{v:V}{ys:List D}{Q:VK}(r:Rep (gm X) H Y s)(dn:Den (gm X) H Y d v)(e:zc2 s d=some ys)(q:∀vs,zu (gm X) H Y ys vs->∀a,H a=none->Q (.ref a) (upd H a (.lst vs))):zdZ X.K [v] H Q:=by
 unfold zc2 at e;split at e
 ·rename_i xs ex;split at e
  ·rename_i L eL;split at e
   ·rename_i p ep;split at e
    ·rename_i hp;cases e;obtain⟨a,ws,rfl,q1,q2⟩:=zG r ex dn;have hl:=q2.length;have hin:∀i∈p.toList,i<xs.length:=λi hi=>by simpa using _Y.mp hp.2.1 i hi
     exact⟨a,ws,L,p,rfl,.inl q1,z6J eL q2,(λn hn z=>by have:=_Y.mp hp.1 n hn;rw[z]at this;cases this),zaw ep,λi hi=>by have:=hin i hi;omega,by rw[hp.2.2];omega,q _ (z8n q2 _ hin)⟩
    ·cases e
   ·cases e
  ·cases e
 ·cases e
theorem zdl:∃r,xF X (.builtin "sorted") r/\z1m X E r z1V:=⟨_,z8V,λH Y s ds vs Q r hd h=>by
 unfold z1V at h;split at h
 ·rename_i d;split at h
  ·rename_i ys e;split at h
   ·rename_i hf;obtain⟨v,rfl,dn⟩:=z36 hd;exact zg9 r dn e λvs dv=>z9Y r h hf dv
   ·exact h.elim
  ·exact h.elim
 ·exact h.elim⟩
end
end Dd
namespace Dd
open L2
noncomputable def zf3:List D->Option (List (List Key×V))
 | .non::ys=>z7s ys | xs=>z7s xs
theorem z4a{kvs:List (List Key×V)}(h:zbK kvs):zf3 (encD kvs)=some kvs:=by
 have:=dec_enc h;cases kvs with
 | nil=>exact this | cons p r=>exact this
theorem Rep.dicF{mg:Gm}{H:Hp}{Y:List Addr}{s:Sto}(r:Rep mg H Y s){l:Nat}{xs:List D}{a:Addr}{kvs:List (List Key×V)}(h:s[l]? = some xs)(ha:Y[l]? = some a)(k:IsC H a)(hd:zf3 xs=some kvs):zbK kvs/\((H a=some (.dT kvs)/\xs=encD kvs)\/∃o,H a=some (.frz o (.dT kvs))/\xs=.non::encD kvs):=by
 rcases r.dic h ha k with⟨kvs',q1,q2⟩ | ⟨o,kvs',ys,q1,rfl,q2⟩
 ·obtain⟨z1,z2,z3⟩:=z2C q2;rw[z1,z4a z2]at hd;cases hd;exact⟨z2,.inl ⟨q1,z1⟩⟩
 ·obtain⟨z1,z2,z3⟩:=z2C q2;have hd:z7s ys=some kvs:=hd;rw[z3]at hd;cases hd;exact⟨z2,.inr ⟨o,q1,by rw[z1]⟩⟩
noncomputable def qV(s:Sto)(o k:D):Option (Option V):=match o,k with
 | .dlo l,.tup ks=>match (s[l]?).bind zf3,z0f ks with
  | some kvs,some key=>some (ve kvs key) | _,_=>none
 | _,_=>none
theorem zdS{kvs:List (List Key×V)}(h:zbK kvs){k:List Key}{v:V}(e:ve kvs k=some v):(z9B v).isSome=true:=by
 unfold ve at e;obtain⟨p,hp,rfl⟩:=_w.mp e;exact h p (List.mem_of_find?_eq_some hp)
theorem zec{mg:Gm}{H:Hp}{Y:List Addr}{v:V}(h:(z9B v).isSome=true):Den mg H Y (vD v) v:=by cases v with
 | int i=>simp[vD,Den] | bl b=>simp[vD,Den] | _=>simp[z9B]at h
section
variable {X:Cx}{E:XK}{a b e f o i:Expr}{pos apos:Pos}
theorem z6V{H:Hp}{Y:List Addr}{s:Sto}{od kd:D}{x y:V}{ov:Option V}(r:Rep (gm X) H Y s)(h1:Den (gm X) H Y od x)(h2:Den (gm X) H Y kd y)(h:qV s od kd=some ov):∃p,x=.ref p/\zcx H p y ov/\(∀v,ov=some v->(z9B v).isSome=true):=by
 unfold qV at h;split at h
 ·rename_i l ks;split at h
  ·rename_i kvs key ek edk;cases h;simp only[Den]at h1;obtain⟨p,rfl,e1,ka⟩:=h1;obtain⟨xs,ex,edc⟩:=_ap.mp ek;obtain⟨z2,q⟩:=r.dicF ex e1 ka edc;have rd:Rd H p (.dT kvs):=q.imp (λq=>q.1) λ⟨o,q,_⟩=>⟨o,q⟩;rw[z4t edk]at h2;simp only[Den]at h2;obtain⟨c,vs,rfl,hb,hd⟩:=h2;rw[z1w hd]at hb;exact⟨p,rfl,.inr ⟨kvs,key,c,rd,rfl,hb,rfl⟩,λv e=>zdS z2 e⟩
  ·cases h
 ·cases h
noncomputable def zgP(neg:Bool)(k o:D)(s:Sto):R D:=match qV s o k with
 | some ov=>.ok (.bl (if neg then !ov.isSome else ov.isSome)) s | none=>.no
def zk9(neg:Bool):R2:=λy x H Q=>∃p ov,x=.ref p/\zcx H p y ov/\Q (.bl (if neg then !ov.isSome else ov.isSome)) H
theorem zlc(hu:X.A.units+64<cLine):OpR X (compareOp .In) (zk9 false):=by
 intro pins s O H x y v u Q I rx ry h;obtain⟨p,ov,rfl,g,q⟩:=h;cases ry;exact zm4 (A:=X.A) (by omega) I g rx λs' I'=>⟨.bl ov.isSome,H,I',rfl,q⟩
theorem zbM(hu:X.A.units+64<cLine):OpR X (compareOp .NotIn) (zk9 true):=by
 intro pins s O H x y v u Q I rx ry h;obtain⟨p,ov,rfl,g,q⟩:=h;cases ry;exact zgj (A:=X.A) (by omega) I g rx λs' I'=>⟨.bl (!ov.isSome),H,I',rfl,q⟩
theorem zeM{neg:Bool}:OpF X E (zk9 neg) (zgP neg):=λH Y s d1 d2 v1 v2 Q r h1 h2 h=>by
 unfold zgP at h;split at h
 ·rename_i ov e1;obtain⟨p,rfl,g,_⟩:=z6V r h2 h1 e1;exact⟨p,ov,rfl,g,h.here r vJ⟩
 ·exact h.elim
theorem zcX(hu:X.A.units+64<cLine):∃r,OpR X (compareOp .NotIn) r/\OpF X E r (zgP true):=⟨_,zbM hu,zeM⟩
noncomputable def zc3(fo fk:FE):FE:=λZ s=>(fo Z s).bind λo s1=>(fk Z s1).bind λk s2=>match qV s2 o k with
 | some (some v)=>.ok (vD v) s2 | _=>.no
theorem zik{fo fk:FE}(hu:X.A.units+64<cLine)(ho:RE X E o fo)(hi:RE X E i fk)(hs:zkr i:=by intro _ _;rfl):RE X E (.Subscript o i pos) (zc3 fo fk):= zL (zeJ (by omega) ho hi hs) λO H Q ⟨Y,Z,s,r,en,h⟩=>by
  unfold zc3 at h;refine zO (k:=λZ o s1=>(fk Z s1).bind λk s2=>match qV s2 o k with | some (some v)=>.ok (vD v) s2 | _=>.no) r en h _ λv H1 Y1 s1 d r1 en1 dn stp h1=>?_;refine zO (k:=λZ k s2=>match qV s2 d k with | some (some v)=>.ok (vD v) s2 | _=>.no) r1 en1 h1 _ λv2 H2 Y2 s2 kd r2 en2 dn2 stp2 h2=>?_;split at h2
  ·rename_i u eu;obtain⟨p,rfl,g,al⟩:=z6V r2 (dn.mono stp2) dn2 eu;exact⟨p,u,rfl,g,h2.here r2 (zec (al u rfl))⟩
  ·exact h2.elim
noncomputable def z80(fo fk fx:FE):FE:=λZ s=>(fo Z s).bind λo s1=>match o with
 | .dlo l=>(fk Z s1).bind λk s2=>(fx Z s2).bind λx s3=>match qV s3 (.dlo l) k with
  | some ov=>.ok (match ov with | some v=>vD v | none=>x) s3 | none=>.no
 | _=>.no
theorem zff{fo fk fx:FE}(hu:X.A.units+64<cLine)(ho:RE X E o fo)(he:RE X E e fk)(hf:RE X E f fx)(hbase:attributeBase o "get" X.env (eval o X.env)=eval o X.env:=by rfl) (hfew:((backTo pos (starEach [e,f] X.env)).all (λx=>!x.1)&&(backToKw pos (keywordEach [] X.env)).all (λx=>x.1.isSome) && decide (([e,f]:List Expr).length+([]:List Keyword).length+(if ([]:List Keyword).isEmpty then 0 else 1)<30))=true:=by rfl) (hline:(apos.endLine==pos.line)=true:=by rfl)(htr:backTo pos (starEach [e,f] X.env)=[(false,eval e X.env),(false,eval f X.env)]:=by rfl): RE X E (.Call (.Attribute o "get" apos) [e,f] [] pos) (z80 fo fk fx):= zL (zcC (by omega) ho he hf ⟨hbase,hfew,hline,htr⟩) λO H Q ⟨Y,Z,s,r,en,h⟩=>by
  unfold z80 at h;refine zO (k:=λZ o s1=>match o with
   | .dlo l=>(fk Z s1).bind λk s2=>(fx Z s2).bind λx s3=>match qV s3 (.dlo l) k with
    | some ov=>.ok (match ov with | some v=>vD v | none=>x) s3 | none=>.no
   | _=>.no) r en h _ λv H1 Y1 s1 d r1 en1 dn stp h1=>?_;split at h1
  ·rename_i l;have dl:=dn;simp only[Den]at dl;obtain⟨p,rfl,e1,ka⟩:=dl;have isd:IsD H1 p:=by rcases ka with⟨kvs,q⟩ | ⟨o,kvs,q⟩;exact .inr ⟨kvs,.inl q⟩;exact .inr ⟨kvs,.inr ⟨o,q⟩⟩
   refine⟨p,rfl,isd,?_⟩;refine zO (k:=λZ k s2=>(fx Z s2).bind λx s3=>match qV s3 (.dlo l) k with
    | some ov=>.ok (match ov with | some v=>vD v | none=>x) s3 | none=>.no) r1 en1 h1 _ λv2 H2 Y2 s2 kd r2 en2 dn2 stp2 h2=>?_;refine zO (k:=λZ x s3=>match qV s3 (.dlo l) kd with
    | some ov=>.ok (match ov with | some v=>vD v | none=>x) s3 | none=>.no) r2 en2 h2 _ λv3 H3 Y3 s3 xd r3 en3 dn3 stp3 h3=>?_;split at h3
   ·rename_i ov eu;obtain⟨p',e',g,al⟩:=z6V r3 ((dn.mono stp2).mono stp3) (dn2.mono stp3) eu;cases e';refine⟨ov,g,?_⟩;cases ov with
    | none=>exact h3.here r3 dn3 | some u=>exact h3.here r3 (zec (al u rfl))
   ·exact h3.elim
  ·exact h1.elim
end
@[simp] theorem zfO (fo fk:FE)(Z:Ev)(s:Sto):zc3 fo fk Z s=(fo Z s).bind λo s1=>(fk Z s1).bind λk s2=>match qV s2 o k with
 | some (some v)=>.ok (vD v) s2 | _=>.no:=id rfl
@[simp] theorem zcE (fo fk fx:FE)(Z:Ev)(s:Sto):z80 fo fk fx Z s=(fo Z s).bind λo s1=>match o with
 | .dlo l=>(fk Z s1).bind λk s2=>(fx Z s2).bind λx s3=>match qV s3 (.dlo l) k with
  | some ov=>.ok (match ov with | some v=>vD v | none=>x) s3 | none=>.no
 | _=>.no:=id rfl
end Dd
namespace L2
open Dd
def Itd(a:Addr)(o:Obj)(kvs:List (List Key×V)):It:= ⟨λi H=>H a=some (.frz o (.dT kvs))/\i<kvs.length,λi H x H'=>H'=H/\∃p b,kvs[i]? = some p/\x=.ref b/\H b=some (.tup (p.1.map kV)),λi H=>H a=some (.frz o (.dT kvs))/\kvs.length<=i⟩
theorem zcz{P:Program}{w:World}{K:W.Frag}{tg:Expr}(a it:Addr){o:Obj}{es:Array DictEntry}{ep:Nat}(ho:o.data=.dict es ep)(kvs:List (List Key×V)):zcK P w K tg (Itd a o kvs) [it] it (λi h=>h.IsKeyIter it a i es.size ep) where
 mem:=by simp
 obj:=λi h st b hb=>by
  have e:b=it:=by simpa using hb
  subst e;obtain⟨o,e,c,d⟩:=st;exact⟨o,e,λv z=>by rw[d]at z;cases z⟩
 keep:=λi h h' st k=>st.at λo e=>k it (by simp) o e;item:=by
  intro X hP hw hK hc i pins s O H E I hf st hg;subst hP hw hK;obtain⟨ha,hi⟩:=hg;obtain⟨h0,z,lo,xs,rel,o',es',ep',h1,h2,h3,h4,h5⟩:=(show yM X.prog X.w H s.heap a (.frz o (.dT kvs)) from I.hok a _ ha);rw[h0]at h1;cases h1;rw[ho]at h3;cases h3;obtain⟨p,hp⟩:∃p,kvs[i]? = some p:=⟨kvs[i],_f hi⟩;obtain⟨x,hx,r1,r2,r3⟩:=Dd.z0w rel i p hp;obtain⟨f0,f1,f2,f3,f4,f5⟩:=hf it (by simp);have he:es[i]? = some (entryOfKey (tupleKind (zK X.prog X.w)) x):=by rw[entry_at h4,hx];rfl
  refine zce st h0 ho he λh' st' sb=>?_;have I1:Inv X pins O H {s with heap:=h'}:=I.turned (t':=s.toks) (λb o hb e=>(sb.2 b hb).trans e) f0 f1 f3 f4 f5;obtain⟨o2,e,c,d⟩:=id st';exact⟨_,rfl,zcm (s:={s with heap:=h'}) e c d (by decide) ⟨.ref x.2.1,H,I1,rfl,⟨rfl,p,x.2.1,hp,rfl,r2⟩,st',λb hb=>(hf b hb).1⟩⟩
 done:=by
  intro X hP hw hK hc i pins s O H E I hf st hg;subst hP hw hK;obtain⟨ha,hi⟩:=hg;obtain⟨h0,z,lo,xs,rel,o',es',ep',h1,h2,h3,h4,h5⟩:=(show yM X.prog X.w H s.heap a (.frz o (.dT kvs)) from I.hok a _ ha);rw[h0]at h1;cases h1;rw[ho]at h3;cases h3;have hl:xs.length=kvs.length:=(_cd rel).symm;have hsz:es.size=xs.length:=size_of_entries h4;obtain⟨f0,f1,f2,f3,f4,f5⟩:=hf it (by simp);exact zeQ (I.ok.hd hc) st h0 ho (by simp;omega) λh' eb=>⟨rfl,I.turned (t':=s.toks) (λb o hb e=>eb b o hb e) f0 f1 f3 f4 f5⟩
 self:=λ_ _ _ _ _ st hQ=>wpAny_pyIter_keyiter st hQ
theorem zim{X:Cx}{tg l:Expr}{tl:TE}(hl:PE X l tl):PI X tg l (λO H R=>tl O H λx H1=>∃a kvs,x=.ref a/\((H1 a=some (.dT kvs)/\∀o,R (Itd a o kvs) (upd H1 a (.frz o (.dT kvs))))\/∃o,H1 a=some (.frz o (.dT kvs))/\R (Itd a o kvs) H1)):=by
 intro pins s O H R I h;refine thn (hl pins s O H _ I h) λv s1 ⟨x,H1,I1,r1,q1⟩=>?_;obtain⟨a,kvs,e,q⟩:=q1;subst e;cases r1;have fin:∀(o:Obj)(H2:Hp),Inv X pins O H2 s1->H2 a=some (.frz o (.dT kvs))->R (Itd a o kvs) H2->wpAny (model X.prog X.w) X.A (pyIter (.ref a)) (PIE X pins O tg R) X.xe s1:=λo H2 I2 ha q=>by
  obtain⟨h0,z,lo,xs,rel,o',es,ep,h1,h2,h3,h4,h5⟩:=(show yM X.prog X.w H2 s1.heap a (.frz o (.dT kvs)) from I2.hok a _ ha);rw[h0]at h1;cases h1;refine zdt lo ⟨o,h0,h2,h3⟩ ?_;refine⟨s1.heap.objs.size,[s1.heap.objs.size],_,_,H2,rfl,I2.kept (t':=s1.toks) λb o e=>_d _ e,zcz a _ h3 kvs,⟨_,_n _ rfl,rfl,rfl⟩,λb hb=>?_,q⟩;have e:b=s1.heap.objs.size:=by simpa using hb
  subst e;exact I2.fpOk (_h _) (I2.hok.fresh (_h _))
 rcases q with⟨ha,q⟩ | ⟨o,ha,q⟩
 ·obtain⟨_,_,xs,_,o,es,ep,h1,_⟩:=(show yM X.prog X.w H1 s1.heap a (.dT kvs) from I1.hok a _ ha);exact fin o _ (I1.freeze ha h1 (by intro _ z;cases z) (by intro _ _ z;cases z) (by intro _ z;cases z) (by intro _ z;cases z)) zN (q o)
 ·exact fin o H1 I1 ha q
end L2
namespace Dd
open L2
section
variable {X:Cx}{E:XK}{e tg:Expr}
noncomputable def z9F(f:FE):FI:=λZ s=>(f Z s).bind λd s1=>match d with
 | .dlo l=>match (s1[l]?).bind zf3 with
  | some kvs=>.ok (z45 kvs,[]) (s1.set l (.non::encD kvs)) | none=>.no
 | _=>.no
theorem zf6{mg:Gm}{H:Hp}{Y:List Addr}{p:List Key×V}{b:Addr}(h:H b=some (.tup (p.1.map kV))):Den mg H Y (.tup (p.1.map z6v)) (.ref b):=by
 simp only[Den];exact⟨b,_,rfl,h,z53 _⟩
theorem zjT {f:FE} (h:RE X E e f):RI X E tg e (z9F f):=z3A (zim h) λO H Q ⟨Y,Z,s,r,en,h⟩=>by
 unfold z9F at h;refine⟨Y,Z,s,r,en,(okR.bind (Dn:=Den (gm X)) h).imp λv H1 ⟨Y1,s1,d,stp,dn,h1⟩=>?_⟩;split at h1
 ·rename_i l;split at h1
  ·rename_i kvs ek;obtain⟨xs,ex,edc⟩:=_ap.mp ek;simp only[Den]at dn;obtain⟨a,rfl,e1,ka⟩:=dn;obtain⟨al,q⟩:=stp.rep.dicF ex e1 ka edc;have fl:D.flat.flats (D.non::encD kvs)=true:=z4c kvs;have ok:∀(o:Obj) (H2:Hp) (Y2:List Addr),H2 a=some (.frz o (.dT kvs))->zc8 (gm X) H2 Y2 (z45 kvs,[]) (Itd a o kvs):=λo H2 Y2 ha H3 Y3 s3 stp3 _ i=>by
    have ha3:=stp3.stay ha (by intro _ z;cases z);refine⟨λd hd=>?_,λhl=>⟨ha3,by simpa[z45] using hl⟩⟩;have hi:i<kvs.length:=by have:=(_c.mp hd).1;simpa[z45] using this
    refine⟨⟨ha3,hi⟩,λx H' ⟨e3,p,b,hp,ex,hb⟩=>?_⟩;subst e3 ex;have:d=.tup (p.1.map z6v):=by
     have hd:(z45 kvs)[i]? = some d:=hd;rw[z45,_V,hp]at hd;exact (_K hd).symm
    subst this;exact⟨Y3,.refl stp3.rep,zf6 hb⟩
   refine⟨a,kvs,rfl,?_⟩;rcases q with⟨ha,hx⟩ | ⟨o,ha,hx⟩
   ·refine .inl ⟨ha,λo=>?_⟩;have stp2:=xx.putC (l:=l) (o:=.frz o (.dT kvs)) stp.rep e1 (.putC ⟨_,ha⟩ (.inr ⟨o,kvs,rfl⟩)) (.inr (.inr ⟨o,kvs,encD kvs,zN,rfl,z4l al⟩)) fl;exact h1 _ _ _ stp2 (ok o _ _ zN)
   ·refine .inr ⟨o,ha,?_⟩;have e2:s1.set l (.non::encD kvs)=s1:=by
     rw[<- hx];exact List.ext_getElem? λj=>by
      by_cases z:l=j;·subst z;rw[_L (_c.mp ex).1,ex]
      ·rw[_B z]
    rw[e2]at h1;exact h1 _ _ _ (.refl stp.rep) (ok o _ _ ha)
  ·exact h1.elim
 ·exact h1.elim
end
@[simp] theorem zfk (f:FE)(Z:Ev)(s:Sto):z9F f Z s=(f Z s).bind λd s1=>match d with
 | .dlo l=>match (s1[l]?).bind zf3 with
  | some kvs=>.ok (z45 kvs,[]) (s1.set l (.non::encD kvs)) | none=>.no
 | _=>.no:=id rfl
section
variable {X:Cx}{E:XK}{a:Expr}
def zkv(f:FE):FT:=λZ s=>(f Z s).bind λd s1=>match listOf s1 d with | some xs=>.ok (!xs.isEmpty) s1 | none=>.no
theorem z95{mg:Gm}{H:Hp}{Y:List Addr}{ds:List D}{vs:List V}(h:zu mg H Y ds vs):vs.isEmpty=ds.isEmpty:=by
 have:=h.length;cases ds<;>cases vs<;>simp at this ⊢
theorem zkH{f:FE}(h:RE X E a f)(he:∀whole,isTrue a X.env whole=(do let v <- whole;standAt a.pos;holding [v] (truthy v)):=by intro _;rfl):RT X E a (zkv f):= z6x (zcF h he) λO H Q ⟨Y,Z,s,r,en,h⟩=>by
  refine zO (k:=λZ d s1=>match listOf s1 d with | some xs=>.ok (!xs.isEmpty) s1 | none=>.no) r en h _ λv H1 Y1 s1 d r1 en1 dn stp h1=>?_;split at h1
  ·rename_i xs e;obtain⟨p,vs,rfl,q1,q2⟩:=zG r1 e dn;exact⟨!xs.isEmpty,.inl ⟨vs,.inl q1,by rw[z95 q2]⟩,h1.here (b:=!xs.isEmpty) r1 rfl⟩
  ·exact h1.elim
end
@[simp] theorem zj0 (f:FE)(Z:Ev)(s:Sto):zkv f Z s=(f Z s).bind λd s1=>match listOf s1 d with | some xs=>.ok (!xs.isEmpty) s1 | none=>.no:=id rfl
abbrev NP:=Int×List Int
def z9f(p q:NP):Bool:=if p.1=q.1 then lexN p.2 q.2 else decide (p.1<q.1)
section
variable {prog:Program}{w:World}{A:Around}{E:Value->Shared->Prop}{s:Shared}
theorem z8S{a b c d:Addr}{i j:Int}{t t':Tok}{us vs:Array Value}{ns ms:List Int}{P:PySem.Fin->Shared->Prop}(hu:A.units+1<cLine)(ha:s.heap.IsTuple a #[.int i t,.ref c])(hb:s.heap.IsTuple b #[.int j t',.ref d]) (hc:s.heap.IsTuple c us)(hd:s.heap.IsTuple d vs)(hx:yK us.toList ns)(hy:yK vs.toList ms)(he:SeqAt.EqAt A s (.ref c) (.ref d) (decide (ns=ms))) (h:P (.done (.ret (.bool (z9f (i,ns) (j,ms))))) s):wpAny (model prog w) A (Builtin.«tuple.__lt__» ⟨[.ref a,.ref b],[]⟩) P E s:=by
 obtain⟨oa,ga,ca,na,da⟩:=ha;obtain⟨ob,gb,cb,nb,db⟩:=hb;have tb:s.TypeIs (.ref b) "tuple":=⟨ob,gb,cb⟩;show wpAny _ _ (isInstance (.ref b) (.type "tuple") >>= _) _ _ s;refine _a (_bA tb isSubtype_tuple_tuple ?_);simp only[_bo,_ai,_aB];refine _a (_bO ga da (_a (_bO gb db (_a ?_))));refine _c8 _ (λke r s'=>r.1=none/\s'=s/\(ke=[(Value.int i t,Value.int j t'),(.ref c,.ref d)]\/(ke=[(.ref c,.ref d)]/\i=j)\/(ke=[]/\i=j/\ns=ms))) _ ?_ ?_ _ _ ⟨rfl,rfl,.inl rfl⟩
 ·rintro⟨u,v⟩ ke r s' ⟨hr,rfl,hz⟩;rcases hz with hz | ⟨hz,e⟩ | ⟨hz,_⟩
  ·simp only[_aK,_a3]at hz;obtain⟨⟨rfl,rfl⟩,rfl⟩:=hz;refine _a (_b7 ?_);by_cases e:i=j
   ·subst e;simp only[beq_self_eq_true,_bo,_ai,_aB];exact _b ⟨rfl,rfl,.inr (.inl ⟨trivial,trivial⟩)⟩
   ·rw[show (i==j)=false by simpa using e];simp only[_cC,_G];have hf:z9f (i,ns) (j,ms)=decide (i<j):=by simp[z9f,e]
    rw[hf]at h;refine _a (_a2 (_a (show wpAny _ _ (compareOp .Lt (.int i t) (.int j t')) _ _ _ from _cr ?_)));exact _a (_b (_b (_b h)))
  ·simp only[_aK,_a3]at hz;obtain⟨⟨rfl,rfl⟩,rfl⟩:=hz;refine _a (he _ _ _ _ ?_);by_cases e2:ns=ms
   ·rw[_aq e2];simp only[_bo,_ai,_aB];exact _b ⟨rfl,rfl,.inr (.inr ⟨trivial,e,e2⟩)⟩
   ·rw[_X e2];simp only[_cC,_G];have hf:z9f (i,ns) (j,ms)=lexN ns ms:=by simp[z9f,e]
    rw[hf]at h;refine _a (_a2 (_a (show wpAny _ _ (compareOp .Lt (.ref c) (.ref d)) _ _ _ from zje (by omega) hc hd hx hy ?_)));exact _a (_b (_b (_b h)))
  ·cases hz
 ·rintro⟨r1,r2⟩ s' ⟨hr,rfl,hz⟩;simp only at hr;subst hr;refine _b ?_;rcases hz with hz | ⟨hz,_⟩ | ⟨_,e1,e2⟩;·cases hz
  ·cases hz
  ·have irr:∀a:List Int,lexN a a=false:=λa=>by induction a with
    | nil=>rfl | cons x a ih=>simp[lexN,ih]
   have hf:z9f (i,ns) (j,ms)=false:=by simp[z9f,e1,e2,irr]
   rw[hf]at h;exact h
theorem zke{a b c d:Addr}{i j:Int}{t t':Tok}{us vs:Array Value}{ns ms:List Int}{Q:Value->Shared->Prop}(hu:A.units+2<cLine)(ha:s.heap.IsTuple a #[.int i t,.ref c])(hb:s.heap.IsTuple b #[.int j t',.ref d]) (hc:s.heap.IsTuple c us)(hd:s.heap.IsTuple d vs)(hx:yK us.toList ns)(hy:yK vs.toList ms)(he:SeqAt.EqAt A.in1 s (.ref c) (.ref d) (decide (ns=ms))) (h:Q (.bool (z9f (i,ns) (j,ms))) s):wpAny (model prog w) A (richCompare .Lt (.ref a) (.ref b)) Q E s:=by
 have ta:s.TypeIs (.ref a) "tuple":=by obtain⟨o,g,c,_⟩:=ha;exact⟨o,g,c⟩
 have tb:s.TypeIs (.ref b) "tuple":=by obtain⟨o,g,c,_⟩:=hb;exact⟨o,g,c⟩
 refine wpAny_richCompare_same_room ta tb _bq (_T _bq ta PySem.F.entry_tuple_lt ?_ (PySem.F.args_tuple_lt_2 _ _)) (by omega);exact z8S (by have:A.in1.units=A.units+1:=rfl;omega) ha hb hc hd hx hy he ⟨_,rfl,by simp,h⟩
end
def z9N:NP->List NP->NP
 | b,[]=>b | b,x::r=>z9N (if z9f x b then x else b) r
noncomputable def zdK:D->Option NP
 | .tup [.int i,.tup ds]=>(zdR ds).map λns=>(i,ns) | _=>none
noncomputable def z2o:List D->Option (List NP)
 | []=>some [] | d::ds=>match zdK d,z2o ds with | some p,some ps=>some (p::ps) | _,_=>none
def pairD(p:NP):D:=.tup [.int p.1,.tup (p.2.map D.int)]
theorem zgg(p:NP):zdK (pairD p)=some p:=by simp[zdK,pairD,z4D]
theorem z7Z:∀L:List NP,z2o (L.map pairD)=some L
 | []=>rfl | p::L=>by simp only[_v,z2o,zgg,z7Z L]
noncomputable def z9Z:Mir:=λds s=>match ds with
 | [d]=>match (zW s d).bind z2o with
  | some (p::L)=>.ok (pairD (z9N p L)) s | _=>.no
 | _=>.no
theorem z8i{bt:Nat->Nat->Bool}{L:List NP}(hb:∀i j,bt i j=z9f (L.getD i (0,[])) (L.getD j (0,[]))):∀k,k<L.length->∀n M,L=n::M->L.getD (argBest bt k) (0,[])=z9N n (M.take k)
 | 0,_,n,M,e=>by subst e;simp[argBest,z9N] | k+1,hk,n,M,e=>by
  have ih:=z8i hb k (by omega) n M e;have hM:k<M.length:=by subst e;simpa using hk
  have gk:L.getD (k+1) (0,[])=M[k]:=by subst e;simp[List.getD,hM]
  have app:∀(b:NP)(A:List NP)(x:NP),z9N b (A++[x])=if z9f x (z9N b A) then x else z9N b A:=by
   intro b A;induction A generalizing b with
   | nil=>intro x;rfl | cons y A ih=>intro x;exact ih _ x
  rw[_b0,_f hM,Option.toList_some,app,<- ih];simp only[argBest,hb (k+1) (argBest bt k),gk];split;·exact gk
  ·rfl
def AtP(H:Hp)(v:V)(p:NP):Prop:=∃b c,v=.ref b/\H b=some (.tup [.int p.1,.ref c])/\H c=some (.tup (p.2.map V.int))
section
variable {X:Cx}{E:XK}
def zkm(K:W.Frag):List V->Hp->VK->Prop:=λxs H Q=>∃b p ys n L,xs=[.ref p]/\Sq b K H p ys/\Paired (λv ns=>AtP H v ns) ys (n::L)/\∀v,AtP H v (z9N n L)->Q v H
theorem AtP.tuple{pins:List (Addr×Obj)}{O:L2.St}{H:Hp}{s:Shared}(I:Inv X pins O H s){v:V}{u:Value}{p:NP}(a:AtP H v p)(r:yr v u):∃b c t its,u=.ref b/\AtN H (.ref c) p.2/\s.heap.IsTuple b #[.int p.1 t,.ref c]/\s.heap.IsTuple c its/\yK its.toList p.2:=by
 obtain⟨b,c,rfl,e,e2⟩:=a;cases (show u=Value.ref b from r);obtain⟨its,r,pl,hz⟩:=I.tuple (.inl (.inl e));obtain⟨its2,r2,pl2,hz2⟩:=I.tuple (.inl (.inl e2));cases r with | cons h1 r=>
  obtain⟨t,rfl⟩:=h1;cases r with | cons h2 r=>
   cases r;cases (show _=Value.ref c from h2);exact⟨b,c,t,its2.toArray,rfl,⟨c,rfl,e2⟩,pl,pl2,yK.of_vals (by simpa using r2)⟩
theorem zbU (hc:X.calm=true) (hu:X.A.units+64<cLine):xF X (.builtin "min") (zkm X.K):=by
 intro pins s O H xs us Q I r h;obtain⟨b,p,ys,n,L,rfl,hq,hp,q⟩:=h;obtain⟨u,rfl,ru⟩:=vals1 r;cases ru;obtain⟨its,rv,co⟩:=I.sq hq;have hl:its.length=(n::L).length:=by rw[<- z3I hp,rv.length]
 have at_:∀i v,its.toArray[i]? = some v->∃y,ys[i]? = some y/\yr y v/\AtP H y ((n::L).getD i (0,[])):=λi v e=>by
  have e':its[i]? = some v:=by simpa using e
  have hi:i<ys.length:=by have:=(_c.mp e').1;have:=rv.length;omega
  obtain⟨w,hw,rw_⟩:=rv.get (i:=i) (x:=ys[i]) (_f hi);rw[e']at hw;cases hw;obtain⟨ns,e1,e2⟩:=z0w hp i _ (_f hi);exact⟨ys[i],_f hi,rw_,by rw[List.getD,e1];exact e2⟩
 refine z9D (Zz.z5f (I.ok.hd hc) co λs2 e2 St W st bd old=>?_);subst e2;refine⟨_,_,_,_,_,_,λi j=>z9f ((n::L).getD i (0,[])) ((n::L).getD j (0,[])),λh=>∀c o,s.heap.get? c=some o->h.get? c=some o,rfl,W,st,bd,by simp[hl],λc o e=>_d _ e,λi j vi vj s3 Q3 E3 kh pi pj q3=>?_,λh h' kh k c o e=>?_,λv h' tk e hk=>?_⟩
 ·obtain⟨yi,_,ri,ai⟩:=at_ i vi pi;obtain⟨yj,_,rj,aj⟩:=at_ j vj pj;obtain⟨b1,c1,k1,t1,rfl,n1,x1,y1,z1⟩:=ai.tuple I ri;obtain⟨b2,c2,k2,t2,rfl,n2,x2,y2,z2⟩:=aj.tuple I rj;have up:∀{c:Addr} {its:Array Value},s.heap.IsTuple c its->s3.heap.IsTuple c its:=λ⟨o,g,w⟩=>⟨o,kh _ _ g,w⟩;have u1:X.A.in1.units=X.A.units+1:=rfl;have u2:X.A.in1.in1.units=X.A.units+2:=rfl;have eqa:SeqAt.EqAt X.A.in1.in1 s3 (.ref c1) (.ref c2) (decide (((n::L).getD i (0,[])).2=((n::L).getD j (0,[])).2)):=by
   have I3:HOk X.prog X.w H s3.heap:=λa o ha=>(I.hok a o ha).stay (λ_ _ _ q=>kh _ _ q) (λ_ q=>q) λ_ _ q=>q;exact AtN.eqAt (gm X) I3 (by omega) n1 rfl n2 rfl
  exact zke (by omega) (up x1) (up x2) (up y1) (up y2) z1 z2 eqa q3
 ·refine k c o (λz=>?_) (by rw[_ak];exact _aJ (_m e)) (kh c o e);have:c=s.heap.objs.size:=by simpa using z
  exact absurd (this ▸ _m e) (_al _)
 ·obtain⟨y,_,ry,ay⟩:=at_ _ v e;have em:=z8i (bt:=λi j=>z9f ((n::L).getD i (0,[])) ((n::L).getD j (0,[]))) (L:=n::L) (λi j=>rfl) (its.toArray.size-1) (by simp[hl]) n L rfl;have tk':L.take (its.toArray.size-1)=L:=by simp[hl]
  rw[tk']at em;rw[em]at ay;exact⟨y,H,I.kept (t':=tk) (old h' hk),ry,q y ay⟩
theorem z3E{mg:Gm}{H:Hp}{Y:List Addr}:∀{ds:List D}{vs:List V}{L:List NP},z2o ds=some L->zu mg H Y ds vs->Paired (λv p=>AtP H v p) vs L
 | [],_,_,h,dn=>by simp only[z2o,_D]at h;simp only[zu]at dn;subst dn;subst h;exact .nil | d::ds,_,_,h,dn=>by
  simp only[zu]at dn;obtain⟨v,vs,rfl,h1,h2⟩:=dn;simp only[z2o]at h;split at h
  ·rename_i p ps e1 e2;cases h;refine .cons ?_ (z3E e2 h2);unfold zdK at e1;split at e1
   ·rename_i i es;obtain⟨ns,en,rfl⟩:=_w.mp e1;simp only[Den]at h1;obtain⟨b,ws,rfl,hb,hd⟩:=h1;simp only[zu]at hd;obtain⟨v1,r1,rfl,d1,v2,r2,rfl,d2,rfl⟩:=hd;cases zT d1;obtain⟨c,rfl,hc⟩:=z8A (show zgB (.tup es)=some ns from en) d2;exact⟨b,c,rfl,hb,hc⟩
   ·cases e1
  ·cases h
theorem ziH(hc:X.calm=true)(hu:X.A.units+64<cLine):∃r,xF X (.builtin "min") r/\z1m X E r z9Z:=⟨_,zbU hc hu,λH Y s ds vs Q r hd h=>by
 unfold z9Z at h;split at h
 ·rename_i d;split at h
  ·rename_i n L e;obtain⟨xs,e1,e2⟩:=_ap.mp e;obtain⟨v,rfl,dn⟩:=z36 hd;obtain⟨a,ws,rfl,q1,q2⟩:=ut (K:=X.K) r e1 dn;obtain⟨b,q⟩:=z8d q1;refine⟨b,a,ws,n,L,rfl,q,z3E e2 q2,λv av=>h.here r ?_⟩;obtain⟨b,c,rfl,eb,ec⟩:=av;have dc:Den (gm X) H Y (.tup ((z9N n L).2.map D.int)) (.ref c):=by
    simp only[Den];refine⟨c,_,rfl,ec,?_⟩;generalize (z9N n L).2=ns;induction ns with
    | nil=>exact zu.nil | cons i r ih=>exact zu.cons yq ih
   unfold pairD;simp only[Den];exact⟨b,_,rfl,eb,zu.cons yq (zu.cons dc zu.nil)⟩
  ·exact h.elim
 ·exact h.elim⟩
end
end Dd
namespace Pg
open L2 Dd
def qw:List (Str×Str):=[("next","by_next"),("least","by_least"),("all","by_all"),("turn","by_turn")]
@[simp] noncomputable def z6q:FS:=(wK (zcL (eIs "int" (zc 0)) (zjd (eIs "bool" (zc 0)))))
noncomputable def ki:FS:=z6q
noncomputable def zY:Mir:=Mof ["thing"] 1 ki
@[simp] noncomputable def z6D:FS:=(wK (zcL (eIs "tuple" (zc 0)) (z0d dLe dLe (eC (.int 2)) (zi ub (za (zc 0) zk)) (eC (.int 4)))))
noncomputable def vM:FS:=z6D
noncomputable def ym:Mir:=Mof ["thing"] 1 vM
@[simp] noncomputable def yY:FS:=(wj 3 (ue (za (qM zk) zk)))
@[simp] noncomputable def yZ:FS:=(wj 3 (z1a (vx (zc 3)) [some 1,some 2,none,none] 2 3 (z92 (za (zc 0) (za (eOp vt (zc 1) (eC (.int 1))) zk))) (eOp vt (zc 2) (qM (za (zc 3) zk)))))
@[simp] noncomputable def yX:FS:=(zaA (z6T (za (zc 0) zk)) (kb 4) yZ)
@[simp] noncomputable def kX:FS:=(wK (zc 3))
noncomputable def uI:FS:=(zF yY (zF yX kX))
noncomputable def yb:Mir:=Mof ["size","least","most","found","place"] 3 uI
@[simp] noncomputable def z3a:FS:=(wK (eC (.bl false)))
@[simp] noncomputable def z3j:FS:=(fIf (fOr (z2E (tOf (eIs "tuple" (zc 0)))) (tOf (eOp dNe (zi ub (za (zc 0) zk)) (zc 1)))) z3a xA)
@[simp] noncomputable def jX:FS:=(wK (zi zfw (za (xQ (vx (zc 0)) [none] (kb 0) z1p (zi zY (za (zc 0) zk))) zk)))
noncomputable def qf:FS:=(zF z3j jX)
noncomputable def yg:Mir:=Mof ["thing","many"] 2 qf
@[simp] noncomputable def z2t:FS:=fNo
@[simp] noncomputable def qS:FS:=(fIf (fOr (z2E (tOf (zi zY (za (zc 0) zk)))) (z2E (tOf (z0d dLe dLe (zc 1) (zc 0) (zc 2))))) z2t xA)
noncomputable def jV:FS:=qS
noncomputable def xR:Mir:=Mof ["thing","least","most"] 3 jV
@[simp] noncomputable def z1l:FS:=(fIf (fOr (z2E (tOf (zi zY (za (zc 0) zk)))) (z2E (tOf (z0d dLe dLe (zc 1) (zc 0) (zc 2))))) (z0X "NoNumber") xA)
noncomputable def xW:FS:=z1l
noncomputable def zD:Mir:=jB ["thing","least","most"] 3 xW
@[simp] noncomputable def z4r:FS:=fNo
@[simp] noncomputable def z5h:FS:=(fIf (fOr (z2E (tOf (zi zY (za (zc 0) zk)))) (z2E (tOf (z0d dLe dLe (eC (.int 2)) (zc 0) (zc 1))))) z4r xA)
noncomputable def z10:FS:=z5h
noncomputable def vC:Mir:=Mof ["thing","most"] 2 z10
@[simp] noncomputable def z3n:FS:=(fIf (fOr (z2E (tOf (zi zY (za (zc 0) zk)))) (z2E (tOf (z0d dLe dLe (eC (.int 2)) (zc 0) (zc 1))))) (z0X "NoSize") xA)
noncomputable def vf:FS:=z3n
noncomputable def zX:Mir:=jB ["thing","most"] 2 vf
@[simp] noncomputable def z9J:FS:=(wK (eC (.bl false)))
@[simp] noncomputable def z9I:FS:=(fIf (fOr (z2E (tOf (zi ym (za (zc 0) zk)))) (z2E (tOf (zi yg (za (zc 0) (za (zi ub (za (zc 0) zk)) zk)))))) z9J xA)
@[simp] noncomputable def z97:FS:=(wK (zcL (eOp dGe (zi z34 (za (zc 0) zk)) (eC (.int 0))) (eOp dGt (zi wl (za (zc 0) zk)) (eC (.int 0)))))
noncomputable def vB:FS:=(zF z9I z97)
noncomputable def zS:Mir:=Mof ["thing"] 1 vB
@[simp] noncomputable def z5r:FS:=fNo
@[simp] noncomputable def z67:FS:=(fIf (z2E (tOf (zi zS (za (zc 0) zk)))) z5r xA)
noncomputable def z2B:FS:=z67
noncomputable def yA:Mir:=Mof ["thing"] 1 z2B
@[simp] noncomputable def z51:FS:=(fIf (z2E (tOf (zi zS (za (zc 0) zk)))) (z0X "NoLot") xA)
noncomputable def z0K:FS:=z51
noncomputable def xC:Mir:=jB ["thing"] 1 z0K
@[simp] noncomputable def z4Z:FS:=(wy (zi yA (za (zc 0) zk)))
@[simp] noncomputable def qu:FS:=(wK (eOp dEq (zi ub (za (xQ (vx (zc 0)) [none] (kb 0) (tOf (eOp dNe (zc 0) (eC (.int 0)))) (zc 0)) zk)) (eC (.int 1))))
noncomputable def z0I:FS:=(zF z4Z qu)
noncomputable def yo:Mir:=Mof ["lot"] 1 z0I
@[simp] noncomputable def z3i:FS:=(wy (zi xC (za (zc 0) zk)))
noncomputable def z4F:FS:=(zF z3i (qK qu))
noncomputable def wz:Mir:=jB ["lot"] 1 z4F
@[simp] noncomputable def xH:FS:=(wj 1 (zbH (zc 0) (zi wl (za (zc 0) zk))))
@[simp] noncomputable def xN:FS:=(wK (qM (za (zc 1) (za (eOp vt (eOp vt (eSl (zc 0) yW (uT (zc 1))) (qM (za (eC (.int 0)) zk))) (eSl (zc 0) (uT (eOp vt (zc 1) (eC (.int 1)))) yW)) zk))))
noncomputable def wn:FS:=(zF xH xN)
noncomputable def zB:Mir:=Mof ["lot","at"] 1 wn
@[simp] noncomputable def jf:FS:=(wK (zbH (zc 0) (zi z34 (za (xQ (vx (zc 0)) [none] (kb 0) (tOf (eOp dNe (zc 0) (eC (.int 0)))) (zc 0)) zk))))
noncomputable def jJ:FS:=jf
noncomputable def zZ:Mir:=Mof ["lot"] 1 jJ
@[simp] noncomputable def z29:FS:=(wK (xQ (z6T (za (zi ub (za (zc 0) zk)) zk)) [some 1,none] (kb 1) (tOf (eOp dNe (zc 1) (zc 0))) (zc 1)))
noncomputable def z3B:FS:=z29
noncomputable def xu:Mir:=Mof ["lot","place"] 2 z3B
@[simp] noncomputable def z7j:FS:=(wK (zcL (eIs "str" (zc 0)) (z8v qw false (zc 0))))
noncomputable def z3D:FS:=z7j
noncomputable def yC:Mir:=Mof ["thing"] 1 z3D
@[simp] noncomputable def z5R:FS:=(wK (eIf (tOf (eOp dEq (zc 0) (eC (.str "turn")))) (eOp vt (eSl (zc 1) (uT (eC (.int 1))) yW) (eSl (zc 1) yW (uT (eC (.int 1))))) (zc 1)))
noncomputable def z8G:FS:=z5R
noncomputable def qP:Mir:=Mof ["rule","numbers"] 2 z8G
@[simp] noncomputable def z7u:FS:=(zgM (zi zB (za (zc 0) zk)) (kw 1 2))
@[simp] noncomputable def z2K:FS:=(wK (qM (za (zbH (zc 2) (zi wl (za (zc 2) zk))) (za (ue (za (zc 1) zk)) zk))))
noncomputable def z3H:FS:=(zF z7u z2K)
noncomputable def wI:Mir:=Mof ["lot","greatest","others"] 1 z3H
@[simp] noncomputable def z5x:FS:=(zgM (zi zB (za (zc 0) zk)) (kw 1 2))
@[simp] noncomputable def z63:FS:=(wK (qM (za (zi zZ (za (zc 2) zk)) (za (ue (za (zc 1) zk)) zk))))
noncomputable def z2A:FS:=(zF z5x z63)
noncomputable def xD:Mir:=Mof ["lot","greatest","others"] 1 z2A
@[simp] noncomputable def z9l:FS:=(wj 1 (zi zZ (za (zc 0) zk)))
@[simp] noncomputable def z9g:FS:=(wK (qM (za (zc 1) (za (zi xu (za (zc 0) (za (zc 1) zk))) zk))))
noncomputable def z6p:FS:=(zF z9l z9g)
noncomputable def uq:Mir:=Mof ["lot","by"] 1 z6p
@[simp] noncomputable def z74:FS:=(wK (qM (za (eC (.int 0)) (za (ue zk) zk))))
@[simp] noncomputable def z72:FS:=(fIf (tOf (eOp dEq (eOp dIx (zc 0) (eC (.int 0))) (eC (.int 0)))) z74 xA)
@[simp] noncomputable def z7y:FS:=(wK (qM (za (eC (.int 0)) (za (zi xu (za (zc 0) (za (eC (.int 0)) zk))) zk))))
noncomputable def z3Q:FS:=(zF z72 z7y)
noncomputable def wJ:Mir:=Mof ["lot"] 1 z3Q
@[simp] noncomputable def z4H:FS:=fNo
@[simp] noncomputable def z4N:FS:=(fIf (z2E (tOf (zi yC (za (zc 0) zk)))) z4H xA)
noncomputable def z0Z:FS:=z4N
noncomputable def yH:Mir:=Mof ["thing"] 1 z0Z
@[simp] noncomputable def jT:FS:=(fIf (z2E (tOf (zi yC (za (zc 0) zk)))) (z0X "NoRule") xA)
noncomputable def z0b:FS:=jT
noncomputable def yd:Mir:=jB ["thing"] 1 z0b
@[simp] noncomputable def z6n:FS:=(wj 2 (zjv qw (zc 0)))
@[simp] noncomputable def z0U:FS:=(zgM (z8b 2 [("by_next",wI),("by_least",xD),("by_all",uq),("by_turn",wJ)] (za (zc 1) zk)) (kw 3 4))
@[simp] noncomputable def z16:FS:=(wK (qM (za (zc 3) (za (xQ (z6T (za (zi ub (za (zc 1) zk)) zk)) [some 4,some 1,some 3,none] (kb 3) z1p (eIf (tOf (eOp (za2 false) (zc 3) (zc 0))) (eOp z79 (eOp dIx (zc 1) (zc 3)) (eOp dIx (zc 1) (zc 2))) (eC (.int 0)))) zk))))
noncomputable def z2Z:FS:=(zF z6n (zF z0U z16))
noncomputable def xo:Mir:=Mof ["rule","lot","deal","by","divided"] 2 z2Z
@[simp] noncomputable def qN:FS:=(wy (zi yH (za (zc 0) zk)))
@[simp] noncomputable def qU:FS:=(wy (zi yA (za (zc 1) zk)))
noncomputable def va:FS:=(zF qN qU)
noncomputable def zI:Mir:=Mof ["rule","lot"] 2 va
@[simp] noncomputable def yU:FS:=(wy (zi yd (za (zc 0) zk)))
@[simp] noncomputable def wu:FS:=(wy (zi xC (za (zc 1) zk)))
noncomputable def xh:FS:=(zF yU wu)
noncomputable def zr:Mir:=jB ["rule","lot"] 2 xh
@[simp] noncomputable def z5a:FS:=(wy (zi zI (za (zc 0) (za (zc 1) zk))))
@[simp] noncomputable def z4m:FS:=fNo
@[simp] noncomputable def z4T:FS:=(fIf (tOf (zi yo (za (zc 1) zk))) z4m xA)
noncomputable def z18:FS:=(zF z5a z4T)
noncomputable def xj:Mir:=Mof ["rule","lot"] 2 z18
@[simp] noncomputable def z3h:FS:=(wy (zi zr (za (zc 0) (za (zc 1) zk))))
@[simp] noncomputable def z3s:FS:=(fIf (tOf (zi wz (za (zc 1) zk))) (z0X "Ended") xA)
noncomputable def z4M:FS:=(zF z3h z3s)
noncomputable def qB:Mir:=jB ["rule","lot"] 2 z4M
@[simp] noncomputable def zcg:FS:=(wy (zi xj (za (zc 0) (za (zc 1) zk))))
@[simp] noncomputable def zcj:FS:=(zgM (zi xo (za (zc 0) (za (zc 1) zk))) (kw 2 3))
@[simp] noncomputable def z8H:FS:=(wj 4 (zi z01 (za (xQ (zgR (za (zc 1) (za (zc 3) zk))) [some 1,some 2,none,none] (kw 2 3) z1p (eOp ze1 (zc 2) (eOp qJ (zc 3) (eOp dIx (zc 0) (zc 1))))) zk)))
@[simp] noncomputable def z4J:FS:=(wK (zi qP (za (zc 0) (za (zc 4) zk))))
noncomputable def zba:FS:=(zF zcg (zF zcj (zF z8H z4J)))
noncomputable def M_step:Mir:=Mof ["rule","lot","by","quotients","left"] 2 zba
@[simp] noncomputable def zbb:FS:=(wy (zi qB (za (zc 0) (za (zc 1) zk))))
@[simp] noncomputable def za0:FS:=(zgM (zi xo (za (zc 0) (za (zc 1) zk))) (kw 2 3))
@[simp] noncomputable def zaL:FS:=(wj 4 (zi z01 (za (xQ (zgR (za (zc 1) (za (zc 3) zk))) [some 1,some 2,none,none] (kw 2 3) z1p (eOp ze1 (zc 2) (eOp qJ (zc 3) (eOp dIx (zc 0) (zc 1))))) zk)))
noncomputable def zdM:FS:=(zF zbb (zF za0 (zF zaL (qK z4J))))
noncomputable def X_step:Mir:=jB ["rule","lot","by","quotients","left"] 2 zdM
@[simp] noncomputable def xy:FS:=(wj 3 zhV)
@[simp] noncomputable def yL:FS:=(wj 5 (zek (za (zc 4) zk)))
@[simp] noncomputable def xw:FS:=(wy (zgQ (zc 5) (zi M_step (za (zc 0) (za (eOp dIx (zc 5) (z3Z (eC (.int 1)))) zk)))))
@[simp] noncomputable def yP:FS:=(z6u (zhF (tOf (eOp (zgP true) (eOp dIx (zc 5) (z3Z (eC (.int 1)))) (zc 3))) (z2E (tOf (zi yo (za (eOp dIx (zc 5) (z3Z (eC (.int 1)))) zk))))) xw)
@[simp] noncomputable def yO:FS:=(wj 6 (z80 (zc 3) (eOp dIx (zc 5) (z3Z (eC (.int 1)))) (eC (.int 0))))
@[simp] noncomputable def yR:FS:=(zbD (zc 3) (zc 7) (zc 6))
@[simp] noncomputable def wX:FS:=(zh3 6 (eC (.int 1)))
@[simp] noncomputable def xz:FS:=(zaA (vx (zbk (zc 5))) (kb 7) (zF yR wX))
@[simp] noncomputable def yN:FS:=(zaA (vx (eSl (zi yb (za (zc 1) (za (eC (.int 0)) (za (zc 2) zk)))) (uT (eC (.int 1))) yW)) (kb 4) (zF yL (zF yP (zF yO xz))))
@[simp] noncomputable def uJ:FS:=(wK (zc 3))
noncomputable def jo:FS:=(zF xy (zF yN uJ))
noncomputable def yT:Mir:=Mof ["rule","size","most","steps","lot","path","many","behind"] 3 jo
noncomputable def z1i:FS:=(zF (qK xy) (zF (qK yN) (qK uJ)))
noncomputable def wF:Mir:=jB ["rule","size","most","steps","lot","path","many","behind"] 3 z1i
@[simp] noncomputable def z2N:FS:=(wK (z1a (z6T (za (zi ub (za (zc 0) zk)) zk)) [some 0,some 1,none,none] 2 3 (z92 (za (eOp vt (eOp dIx (zc 0) (zc 2)) (eC (.int 1))) (za (eOp vt (zc 1) (eC (.int 1))) zk))) (eOp vt (eOp vt (eSl (zc 0) yW (uT (zc 2))) (qM (za (zc 3) zk))) (eSl (zc 0) (uT (eOp vt (zc 2) (eC (.int 1)))) yW))))
noncomputable def z38:FS:=z2N
noncomputable def qA:Mir:=Mof ["lot","most"] 2 z38
@[simp] noncomputable def vY:FS:=(wK (eIf (tOf (eOp dLt (zc 0) (zc 1))) (zjr (za (zc 0) (za (eOp vt (zc 2) (eC (.int 1))) (za (zc 1) zk)))) (ue zk)))
noncomputable def um:FS:=vY
noncomputable def yB:Mir:=Mof ["left","divider","most"] 3 um
@[simp] noncomputable def z05:FS:=(wK (ue (za (zc 0) zk)))
@[simp] noncomputable def qd:FS:=(fIf (tOf (eOp dEq (eOp dIx (zc 0) (zc 1)) (eC (.int 0)))) z05 xA)
@[simp] noncomputable def z00:FS:=(wj 3 (ue (za (qM zk) zk)))
@[simp] noncomputable def vm:FS:=(wj 6 (eIf (tOf (eOp dEq (zc 4) (zc 1))) (ue (za (zc 5) zk)) (zi yB (za (zc 5) (za (eOp dIx (zc 0) (zc 1)) (za (zc 2) zk))))))
@[simp] noncomputable def vh:FS:=(wj 3 (z1a (vx (zc 3)) [some 6,none,none] 1 2 (vx (zc 0)) (eOp vt (zc 1) (qM (za (zc 2) zk)))))
@[simp] noncomputable def kZ:FS:=(zaA (za4 (za (zc 0) zk)) (kw 4 5) (zF vm vh))
@[simp] noncomputable def z5b:FS:=(wK (zc 3))
noncomputable def z0M:FS:=(zF qd (zF z00 (zF kZ z5b)))
noncomputable def wA:Mir:=Mof ["lot","by","most","found","at","number","numbers"] 3 z0M
@[simp] noncomputable def qY:FS:=(wK (zi wA (za (eOp vt (eSl (zc 1) (uT (z3Z (eC (.int 1)))) yW) (eSl (zc 1) yW (uT (z3Z (eC (.int 1)))))) (za (eC (.int 0)) (za (zc 2) zk)))))
@[simp] noncomputable def vw:FS:=(fIf (tOf (eOp dEq (zc 0) (eC (.str "turn")))) qY xA)
@[simp] noncomputable def ji:FS:=(wK (zi wA (za (zc 1) (za (zbH (zc 1) (zi wl (za (zc 1) zk))) (za (zc 2) zk)))))
@[simp] noncomputable def jc:FS:=(fIf (tOf (eOp dEq (zc 0) (eC (.str "all")))) ji xA)
@[simp] noncomputable def z1D:FS:=(wK (zi qA (za (zc 1) (za (zc 2) zk))))
noncomputable def jM:FS:=(zF vw (zF jc z1D))
noncomputable def xU:Mir:=Mof ["rule","lot","most"] 3 jM
@[simp] noncomputable def kN:FS:=(wK (zcL (zjd (zi wz (za (zc 1) zk))) (eOp dEq (zi X_step (za (zc 0) (za (zc 1) zk))) (zc 2))))
noncomputable def z15:FS:=kN
noncomputable def vo:Mir:=jB ["rule","ahead","lot"] 3 z15
@[simp] noncomputable def z2c:FS:=(wj 3 (zek zk))
@[simp] noncomputable def z2H:FS:=(wy (zgQ (zc 3) (zc 4)))
@[simp] noncomputable def vR:FS:=(wK (zi z1V (za (zc 3) zk)))
@[simp] noncomputable def jW:FS:=(wy (zi yH (za (zc 0) zk)))
@[simp] noncomputable def jN:FS:=(wy (zi vC (za (zc 1) (za (eC (.int 3)) zk))))
@[simp] noncomputable def jL:FS:=(wy (zi xR (za (zc 2) (za (eC (.int 0)) (za (eC (.int 12)) zk)))))
@[simp] noncomputable def jU:FS:=(wj 3 (zi yT (za (zc 0) (za (zc 1) (za (eC (.int 16)) zk)))))
@[simp] noncomputable def xq:FS:=(wj 4 (xQ (z9F (zc 3)) [some 2,some 3,none] (kb 2) (tOf (eOp dEq (zc3 (zc 1) (zc 2)) (zc 0))) (qM (za (zi wl (za (zc 2) zk)) (za (zc 2) zk)))))
@[simp] noncomputable def wG:FS:=(wK (eIf (zkv (zc 4)) (eOp dIx (zi z9Z (za (zc 4) zk)) (eC (.int 1))) (eC .non)))
noncomputable def z09:FS:=(zF jW (zF jN (zF jL (zF jU (zF xq wG)))))
noncomputable def ug:Mir:=Mof ["rule","size","steps","many","found"] 3 z09
@[simp] noncomputable def xG:FS:=(wy (zi yd (za (zc 0) zk)))
@[simp] noncomputable def vF:FS:=(wy (zi zX (za (zc 1) (za (eC (.int 3)) zk))))
@[simp] noncomputable def qQ:FS:=(wy (zi zD (za (zc 2) (za (eC (.int 0)) (za (eC (.int 12)) zk)))))
@[simp] noncomputable def z2r:FS:=(wj 3 (zi wF (za (zc 0) (za (zc 1) (za (eC (.int 16)) zk)))))
noncomputable def wD:FS:=(zF xG (zF vF (zF qQ (zF z2r (zF (qK xq) (qK wG))))))
noncomputable def zU:Mir:=jB ["rule","size","steps","many","found"] 3 wD
@[simp] noncomputable def z1e:FS:=(wK (eOp dIx (zc 0) (zc 1)))
@[simp] noncomputable def z1k:FS:=(fIf (tOf (eOp dLt (zc 1) (zi ub (za (zc 0) zk)))) z1e xA)
@[simp] noncomputable def z1f:FS:=(wK (eC (.int 0)))
noncomputable def vH:FS:=(zF z1k z1f)
noncomputable def yS:Mir:=Mof ["_law_script","_law_k"] 2 vH
@[simp] noncomputable def z6g:FS:=(wK (zek (za (eOp ze1 (zc 0) (eOp z30 (eC (.int 10)) (eC (.int 18)))) zk)))
@[simp] noncomputable def z6o:FS:=(fIf (tOf (eOp dGe (zc 0) (eOp z30 (eC (.int 10)) (eC (.int 18))))) z6g xA)
@[simp] noncomputable def z6z:FS:=(wj 1 (eC (.int 0)))
@[simp] noncomputable def z0S:FS:=(wj 3 (eOp zb2 (eOp qJ (eOp vt (eOp vt (eOp zb2 (zc 0) (eC (.int 2147483629))) (eOp qJ (eC (.int 7919)) (zc 2))) (eC (.int 1))) (eC (.int 48271))) (eC (.int 2147483647))))
@[simp] noncomputable def z0L:FS:=(wj 3 (eOp zb2 (eOp vt (eOp vt (eOp qJ (zc 3) (zc 3)) (eOp qJ (eC (.int 69621)) (zc 2))) (eC (.int 7))) (eC (.int 2147483587))))
@[simp] noncomputable def z0V:FS:=(wj 1 (eOp vt (eOp qJ (zc 1) (eC (.int 2147483587))) (zc 3)))
@[simp] noncomputable def z0R:FS:=(zaA (z6T (za (eC (.int 64)) zk)) (kb 2) (zF z0S (zF z0L z0V)))
@[simp] noncomputable def z6l:FS:=(wK (zek (za (zc 1) zk)))
noncomputable def kq:FS:=(zF z6o (zF z6z (zF z0R z6l)))
noncomputable def vn:Mir:=Mof ["_law_cell","_law_number","_law_j","_law_more"] 1 kq
@[simp] noncomputable def uL:FS:=(wK (ue (za (eC (.str "next")) (za (eC (.str "least")) (za (eC (.str "all")) (za (eC (.str "turn")) zk))))))
noncomputable def qH:FS:=uL
noncomputable def yE:Mir:=Mof [] 0 qH
@[simp] noncomputable def z5c:FS:=(wj 2 (eOp zb2 (eOp dIx (zc 0) (eC (.int 0))) (zc 1)))
@[simp] noncomputable def z4e:FS:=(z69 (zc 0) (eC (.int 0)) (eOp z79 (eOp dIx (zc 0) (eC (.int 0))) (zc 1)))
@[simp] noncomputable def z4h:FS:=(wK (zc 2))
noncomputable def z0W:FS:=(zF z5c (zF z4e z4h))
noncomputable def zm:Mir:=Mof ["_law_pot_here","_law_far","_law_found"] 2 z0W
@[simp] noncomputable def z3m:FS:=(wK (zcL (eIs "int" (zc 0)) (zjd (eIs "bool" (zc 0)))))
noncomputable def kW:FS:=z3m
noncomputable def jm:Mir:=Mof ["_law_thing"] 1 kW
@[simp] noncomputable def z2f:FS:=(wK (eC (.bl false)))
@[simp] noncomputable def jj:FS:=(fIf (fOr (z2E (tOf (eIs "tuple" (zc 0)))) (tOf (eOp (za2 true) (zi ub (za (zc 0) zk)) (qM (za (eC (.int 2)) (za (eC (.int 3)) (za (eC (.int 4)) zk))))))) z2f xA)
@[simp] noncomputable def z2O:FS:=(wK (eC (.bl false)))
@[simp] noncomputable def xk:FS:=(fIf (fOr (z2E (tOf (zi jm (za (zc 1) zk)))) (tOf (eOp dLt (zc 1) (eC (.int 0))))) z2O xA)
@[simp] noncomputable def xb:FS:=(zaA (vx (zc 0)) (kb 1) xk)
@[simp] noncomputable def xX:FS:=(wK (eOp dGt (zi wl (za (zc 0) zk)) (eC (.int 0))))
noncomputable def wC:FS:=(zF jj (zF xb xX))
noncomputable def yI:Mir:=Mof ["_law_thing","_law_number"] 1 wC
@[simp] noncomputable def vZ:FS:=(wj 3 (zi z7D (za (eOp vt (zc 2) (eC (.int 1))) (za (eOp dIx (ue (za (eC (.int 4)) (za (eC (.int 31)) (za (eC (.int 1001)) (za (eOp z30 (eC (.int 10)) (eC (.int 15))) (za (eOp z30 (eC (.int 10)) (eC (.int 39))) zk)))))) (zi zm (za (zc 0) (za (eC (.int 5)) zk)))) zk))))
@[simp] noncomputable def vW:FS:=(wj 4 (z3K (z6T (za (zc 1) zk)) [some 0,some 3,none] (kb 2) z1p (zi zm (za (zc 0) (za (zc 1) zk)))))
@[simp] noncomputable def vT:FS:=(wj 5 (zi zm (za (zc 0) (za (eC (.int 6)) zk))))
@[simp] noncomputable def vU:FS:=(zkV 6 7 (za (zi zm (za (zc 0) (za (zc 1) zk))) (za (zi zm (za (zc 0) (za (zc 1) zk))) zk)))
@[simp] noncomputable def jl:FS:=(z69 (zc 4) (zc 6) (eC (.int 0)))
@[simp] noncomputable def xY:FS:=(fIf (tOf (eOp dEq (zc 5) (eC (.int 0)))) jl xA)
@[simp] noncomputable def qX:FS:=(z69 (zc 4) (zc 6) (eOp dIx (zc 4) (zc 7)))
@[simp] noncomputable def xO:FS:=(fIf (tOf (eOp dEq (zc 5) (eC (.int 1)))) qX xA)
@[simp] noncomputable def qE:FS:=(z69 (zc 4) (zc 7) (eOp vt (eC (.int 1)) (zi zm (za (zc 0) (za (eOp ze1 (zc 3) (eC (.int 1))) zk)))))
@[simp] noncomputable def wg:FS:=(fIf (tOf (eOp dEq (zi wl (za (zc 4) zk)) (eC (.int 0)))) qE xA)
@[simp] noncomputable def qG:FS:=(wK (zi z01 (za (zc 4) zk)))
noncomputable def jO:FS:=(zF vZ (zF vW (zF vT (zF vU (zF xY (zF xO (zF wg qG)))))))
noncomputable def xZ:Mir:=z9x (Mof ["_law_pot_here","_law_size","_law_most","_law_far","_law_found","_law_way","_law_at","_law_to"] 3 jO)
@[simp] noncomputable def vL:FS:=(wj 2 (zi zm (za (zc 0) (za (zi ub (za (zc 1) zk)) zk))))
@[simp] noncomputable def vQ:FS:=(wj 3 (eOp dIx (ue (za (z3Z (eC (.int 1))) (za (eC (.bl true)) (za (eC .non) (za (eC (.str "1")) (za (qM (za (eC (.int 1)) zk)) (za (eC (.bl false)) (za (ue (za (eC (.int 1)) zk)) zk)))))))) (zi zm (za (zc 0) (za (eC (.int 7)) zk)))))
@[simp] noncomputable def xS:FS:=(wj 4 (ue (za (eOp vt (eOp vt (eSl (zc 1) yW (uT (zc 2))) (qM (za (zc 3) zk))) (eSl (zc 1) (uT (eOp vt (zc 2) (eC (.int 1)))) yW)) (za (eOp z8Z (qM (za (eC (.int 0)) zk)) (zi ub (za (zc 1) zk))) (za (zi z9A (za (zc 1) zk)) (za (eSl (eOp vt (eOp vt (zc 1) (zc 1)) (zc 1)) yW (uT (eC (.int 5)))) (za (eSl (zc 1) yW (uT (eC (.int 1)))) (za (qM zk) (za (eC .non) zk)))))))))
@[simp] noncomputable def wa:FS:=(wK (eOp dIx (eOp vt (zc 4) (ue (za (eC (.int 7)) (za (eC (.str "1:2")) (za (eC .dct) (za (qM (za (zc 1) zk)) zk)))))) (zi zm (za (zc 0) (za (eC (.int 11)) zk)))))
noncomputable def jK:FS:=(zF vL (zF vQ (zF xS wa)))
noncomputable def xJ:Mir:=Mof ["_law_pot_here","_law_lot_here","_law_at","_law_odd","_law_some"] 2 jK
end Pg
namespace Dd
open L2
end Dd
namespace L2
open Dd Zz
end L2
namespace Dd
open L2
end Dd
set_option maxRecDepth 1000000
set_option maxHeartbeats 4000000
namespace Pm
end Pm
set_option maxRecDepth 1000000
set_option maxHeartbeats 40000000
namespace Pm
end Pm
set_option maxRecDepth 1000000
set_option maxHeartbeats 40000000
namespace Pm
abbrev Sz(n:Nat):Prop:=n=2\/n=3\/n=4
open L2 (maxL minL maxL_ge maxL_mem minL_le minL_mem)
inductive Rl where | nx | le | al | tu deriving DecidableEq
structure Lot(n:Nat)(v:List Int):Prop where
 sz:Sz n
 len:v.length=n
 nn:∀x∈v,0<=x
 pos:∃x∈v,0<x
def nz(v:List Int):List Int:=v.filter λx=>decide (x≠0)
def ended(v:List Int):Bool:=decide ((nz v).length=1)
def gp(v:List Int):Nat:=v.idxOf (maxL v)
def others(v:List Int):List Int:=v.take (gp v)++[0]++v.drop (gp v+1)
def lp(v:List Int):Nat:=v.idxOf (minL (nz v))
def xL(v:List Int)(p:Nat):List Nat:=(List.range v.length).filter λi=>decide (i≠p)
def deal:Rl->List Int->Nat×List Nat
 | .nx,v=>((others v).idxOf (maxL (others v)),[gp v]) | .le,v=>(lp (others v),[gp v]) | .al,v=>(lp v,xL v (lp v)) | .tu,v=>(0,if v.getD 0 0=0 then [] else xL v 0)
def yc(v:List Int)(d:Nat×List Nat):List Int:=(List.range v.length).map λi=>if i∈d.2 then v.getD i 0 / v.getD d.1 0 else 0
def rot{α:Type}(xs:List α):List α:=xs.drop 1++xs.take 1
def mvd{α:Type}(r:Rl)(xs:List α):List α:=if r=.tu then rot xs else xs
def left(v qs:List Int)(b:Nat):List Int:=List.zipWith (λx q=>x-q*v.getD b 0) v qs
def stp(r:Rl)(v:List Int):List Int:=mvd r (left v (yc v (deal r v)) (deal r v).1)
theorem zbd{α:Type}{x:α}{xs:List α}:x∈rot xs ↔ x∈xs:=by cases xs with
 | nil=>simp[rot] | cons a xs=>simp[rot,or_comm]
theorem z7a{α:Type}{x:α}{xs:List α}{l:Rl}:x∈mvd l xs ↔ x∈xs:=by
 unfold mvd;split;·exact zbd
 ·rfl
theorem zeX{α:Type}(xs:List α):(rot xs).length=xs.length:=by cases xs<;>simp[rot]
theorem zgG{α:Type}{l:Rl}(xs:List α):(mvd l xs).length=xs.length:=by
 unfold mvd;split;·exact zeX xs
 ·rfl
structure Qs(v:List Int)(b:Nat)(qs:List Int):Prop where
 lt:b<v.length
 len:qs.length=v.length
 zero:qs[b]? = some 0
 nn:∀q∈qs,0<=q
 fit:∀i,0<=v.getD i 0-qs.getD i 0*v.getD b 0
 pos:(∀q∈qs,q=0)\/0<v.getD b 0
theorem zdn{α:Type}{v:List α}{b:Nat}(h:b<v.length):∃v1 z v2,v=v1++z::v2/\v1.length=b:= ⟨v.take b,v[b],v.drop (b+1),by rw[<- _aN h,List.take_append_drop],by simp;omega⟩
theorem getD_at{α:Type}{v1 v2:List α}{z d:α}{b:Nat}(h:v1.length=b):(v1++z::v2).getD b d=z:=by
 subst h;simp[List.getD]
theorem vg{v qs:List Int}{b:Nat}(h:qs.length=v.length):(left v qs b).length=v.length:=by simp[left,h]
theorem zfo{v qs:List Int}{b:Nat}(h:Qs v b qs):∀x∈left v qs b,0<=x:=λx hx=>by
 obtain⟨i,hi,e⟩:=_F.mp hx;have:=h.fit i;have hl:=vg (b:=b) h.len;have h1:i<v.length:=by omega
 have h2:i<qs.length:=by rw[h.len];exact h1
 simp only[List.getD,_f h1,_f h2,_bc]at this;rw[<- e];simpa[left,List.getD] using this
theorem z7N{α:Type}(xs:List α):mvd .tu xs=rot xs:=by simp[mvd]
theorem z2k{α:Type}{r:Rl}(h:r≠.tu)(xs:List α):mvd r xs=xs:=by simp[mvd,h]
theorem kL{v:List Int}{x:Int}:x∈nz v ↔ x∈v/\x≠0:=by simp[nz]
theorem getD_mem{v:List Int}{i:Nat}(h:i<v.length):v.getD i 0∈v:=by simp[List.getD,_f h]
theorem xP{v:List Int}(h:∀x∈v,0<=x)(i:Nat):0<=v.getD i 0:=by
 by_cases hi:i<v.length;·exact h _ (getD_mem hi)
 ·simp[List.getD,_az (Nat.not_lt.mp hi)]
theorem z3N{v:List Int}{x:Int}(h:x∈v):v.idxOf x<v.length/\v.getD (v.idxOf x) 0=x:=by
 have hl:=List.idxOf_lt_length_of_mem h;exact⟨hl,by simp[List.getD,_f hl,_cB hl]⟩
theorem Lot.ne{n:Nat}{v:List Int}(h:Lot n v):v≠[]:=λz=>by
 obtain⟨x,hx,_⟩:=h.pos;rw[z]at hx;simp at hx
theorem Lot.nzne{n:Nat}{v:List Int}(h:Lot n v):nz v≠[]:=λz=>by
 obtain⟨x,hx,h0⟩:=h.pos;have:x∈nz v:=kL.mpr ⟨hx,by omega⟩;rw[z]at this;simp at this
theorem z98{v:List Int}(h:nz v≠[]):lp v<v.length/\v.getD (lp v) 0=minL (nz v)/\minL (nz v)≠0:=by
 have m:=kL.mp (minL_mem h);have:=z3N m.1;exact⟨this.1,this.2,m.2⟩
theorem z77{v:List Int}(h:v≠[]):gp v<v.length/\v.getD (gp v) 0=maxL v:=z3N (maxL_mem h)
theorem others_eq{v:List Int}(h:v≠[]):others v=v.set (gp v) 0:=by
 have:=(z77 h).1;unfold others;rw[_bT,_e this];simp
theorem kF{v:List Int}(h:v≠[])(i:Nat):(others v).getD i 0=if i=gp v then 0 else v.getD i 0:=by
 have hg:=(z77 h).1;rw[others_eq h];by_cases e:i=gp v
 ·subst e;simp[List.getD,hg]
 ·simp[List.getD,e,_B (_aM e)]
theorem vq{v:List Int}(h:v≠[]):(others v).length=v.length:=by rw[others_eq h];simp
theorem zbg:∀{v:List Int}{p:Nat},(nz v).length≠1->v.getD p 0≠0->∃j,j≠p/\j<v.length/\v.getD j 0≠0:=by
 intro v p he hp;have hpl:p<v.length:=by
  apply _au;intro z;exact hp (by simp[List.getD,_az (Nat.not_lt.mp z)])
 apply _au;intro hn;apply he;obtain⟨v1,z,v2,rfl,e1⟩:=zdn hpl;rw[getD_at e1]at hp;have f1:∀x∈v1,x=0:=λx hx=>by
  obtain⟨j,hj,rfl⟩:=_F.mp hx;apply _au;intro z0;exact hn ⟨j,by omega,by simp;omega,by simpa[List.getD,_o hj,_f hj] using z0⟩
 have f2:∀x∈v2,x=0:=λx hx=>by
  obtain⟨j,hj,rfl⟩:=_F.mp hx;apply _au;intro z0;refine hn ⟨v1.length+1+j,by omega,by simp;omega,?_⟩;have:(v1++z::v2)[v1.length+1+j]? = some v2[j]:=by rw[_O (by omega),show v1.length+1+j-v1.length=j+1 by omega,_t,_f hj]
  rw[List.getD,this];simpa using z0
 have g1:v1.filter (λx=>decide (x≠0))=[]:=List.filter_eq_nil_iff.mpr λx hx=>by simp[f1 x hx]
 have g2:v2.filter (λx=>decide (x≠0))=[]:=List.filter_eq_nil_iff.mpr λx hx=>by simp[f2 x hx]
 simp only[nz,_bP,List.filter_cons,g1,g2];simp[hp]
theorem z44{v:List Int}(he:ended v=false):(nz v).length≠1:=by simpa[ended] using he
structure Dl(v:List Int)(b:Nat)(dv:List Nat):Prop where
 lt:b<v.length
 nb:b∉dv
 pos:dv=[]\/0<v.getD b 0
theorem xm{v:List Int}{p i:Nat}:i∈xL v p ↔ i<v.length/\i≠p:=by simp[xL]
theorem z6Q{n:Nat}{v:List Int}(h:Lot n v){b:Nat}(hb:b<v.length)(h0:(others v).getD b 0≠0):Dl v b [gp v]/\0<v.getD b 0/\v.getD b 0<=v.getD (gp v) 0:=by
 have hg:=z77 h.ne;rw[kF h.ne]at h0;have ne:b≠gp v:=λe=>by rw[_e e]at h0;exact h0 rfl
 rw[_j ne]at h0;have p0:0<v.getD b 0:=by have:=xP h.nn b;omega
 refine⟨⟨hb,by simpa using ne,.inr p0⟩,p0,?_⟩;rw[hg.2];exact maxL_ge _ (getD_mem hb)
theorem z1W {n:Nat} {v:List Int} (h:Lot n v) (he:ended v=false):nz (others v)≠[]:=by
 have hg:=z77 h.ne;have mx:0<maxL v:=by
  obtain⟨x,hx,h0⟩:=h.pos;have:=maxL_ge (xs:=v) x hx;omega
 obtain⟨j,h1,h2,h3⟩:=zbg (p:=gp v) (z44 he) (by rw[hg.2];omega);intro z;have:v.getD j 0∈nz (others v):=kL.mpr ⟨by
  have:=getD_mem (v:=others v) (i:=j) (by rw[vq h.ne];exact h2);rw[kF h.ne,_j h1]at this;exact this,h3⟩;rw[z]at this;simp at this
theorem kg{n:Nat}{v:List Int}(r:Rl)(h:Lot n v)(he:ended v=false):Dl v (deal r v).1 (deal r v).2:=by cases r with
 | nx=>
  have ne:others v≠[]:=λz=>by
   have:=vq h.ne;rw[z]at this;exact h.ne (_ao.mp this.symm)
  have a:=z3N (maxL_mem ne);have nn:=z1W h he;refine (z6Q h (by rw[<- vq h.ne];exact a.1) ?_).1;show (others v).getD ((others v).idxOf (maxL (others v))) 0≠0;rw[a.2];have m:=kL.mp (minL_mem nn);have m1:=maxL_ge _ m.1;have m2:0<=minL (nz (others v)):=by
   obtain⟨i,hi,e⟩:=_F.mp m.1;have:=kF h.ne i;have e2:(others v).getD i 0=minL (nz (others v)):=by simp[List.getD,_f hi,e]
   rw[e2]at this;rw[this];split;·omega
   ·exact xP h.nn i
  omega | le=>
  have a:=z98 (z1W h he);refine (z6Q h (by rw[<- vq h.ne];exact a.1) ?_).1;show (others v).getD (lp (others v)) 0≠0;rw[a.2.1];exact a.2.2 | al=>
  have a:=z98 h.nzne;refine⟨a.1,by simp[deal,xm],.inr ?_⟩;show 0<v.getD (lp v) 0;have:=xP h.nn (lp v);have b:=a.2.1;have c:=a.2.2;omega | tu=>
  have l0:0<v.length:=by have:=h.sz;rw[h.len];omega
  refine⟨l0,?_,?_⟩
  ·show 0∉(if v.getD 0 0=0 then [] else xL v 0);split<;>simp[xm]
  ·show (if v.getD 0 0=0 then [] else xL v 0)=[]\/0<v.getD 0 0;split;·exact .inl rfl
   ·have:=xP h.nn 0;exact .inr (by omega)
theorem xf(v:List Int)(d:Nat×List Nat):(yc v d).length=v.length:=by simp[yc]
theorem z9k(v:List Int)(d:Nat×List Nat)(i:Nat):(yc v d).getD i 0=if i<v.length/\i∈d.2 then v.getD i 0 / v.getD d.1 0 else 0:=by
 unfold yc;by_cases hi:i<v.length;·simp[List.getD,hi]
 ·simp[List.getD,hi]
theorem qh{v:List Int}{d:Nat×List Nat}(i:Nat):v.getD i 0-(yc v d).getD i 0*v.getD d.1 0=if i<v.length/\i∈d.2 then v.getD i 0 % v.getD d.1 0 else v.getD i 0:=by
 rw[z9k];split
 ·have:=_br (v.getD i 0) (v.getD d.1 0);have e:=_do (v.getD i 0 / v.getD d.1 0) (v.getD d.1 0);omega
 ·omega
theorem zg8{v:List Int}{d:Nat×List Nat}(hv:∀x∈v,0<=x)(h:Dl v d.1 d.2):Qs v d.1 (yc v d):=by
 refine⟨h.lt,xf _ _,?_,λq hq=>?_,λi=>?_,?_⟩;·simp[yc,h.lt,h.nb]
 ·obtain⟨i,hi,rfl⟩:=_F.mp hq;simp only[yc,List.getElem_map,List.getElem_range];split;·exact _co (xP hv _) (xP hv _)
  ·omega
 ·rw[qh];split
  ·rename_i hi;rcases h.pos with z | z;·rw[z]at hi;simp at hi
   ·exact _aL _ (by omega)
  ·exact xP hv i
 ·rcases h.pos with z | z
  ·refine .inl λq hq=>?_;obtain⟨i,hi,rfl⟩:=_F.mp hq;simp[yc,z]
  ·exact .inr z
def bl(n:Nat):Nat:=if n=0 then 0 else bl (n / 2)+1
termination_by n
decreasing_by omega
theorem z6S:bl 0=0:=by rw[bl];simp
theorem z81{n:Nat}(h:n≠0):bl n=bl (n / 2)+1:=by rw[bl,_j h]
theorem zaJ:∀(b a:Nat),a<=b->bl a<=bl b:=by
 intro b;induction b using Nat.strongRecOn with | ind b ih=>
  intro a h;by_cases h0:a=0;·subst h0;rw[z6S];omega
  ·rw[z81 h0,z81 (show b≠0 by omega)];have:=ih (b / 2) (by omega) (a / 2) (by omega);omega
theorem zfT{a b:Nat}(h:2*a<b):bl a<bl b:=by
 rw[z81 (show b≠0 by omega)];have:=zaJ (b / 2) a (by omega);omega
theorem zh2:∀(k n:Nat),n<2 ^ k->bl n<=k
 | 0,n,h=>by simp at h;subst h;rw[z6S];omega | k+1,n,h=>by
  by_cases h0:n=0;·subst h0;rw[z6S];omega
  ·rw[z81 h0];have:=zh2 k (n / 2) (by rw[_dp]at h;omega);omega
def wt(v:List Int):Nat:=(v.map λx=>bl x.toNat).sum
theorem zhh:∀{u v:List Int},u.length=v.length->(∀i,bl (u.getD i 0).toNat<=bl (v.getD i 0).toNat)->wt u<=wt v/\((∃i,bl (u.getD i 0).toNat<bl (v.getD i 0).toNat)->wt u<wt v)
 | [],[],_,_=>⟨by simp,λ⟨i,h⟩=>by simp at h⟩ | a::u,b::v,hl,h=>by
  have ih:=zhh (u:=u) (v:=v) (by simpa using hl) λi=>by simpa using h (i+1)
  have h0:bl a.toNat<=bl b.toNat:=by simpa using h 0
  simp only[wt,_v,List.sum_cons]at ih ⊢;refine⟨by omega,λ⟨i,hi⟩=>?_⟩;cases i with
  | zero=>
   have:bl a.toNat<bl b.toNat:=by simpa using hi
   omega | succ i=>
   have:=ih.2 ⟨i,by simpa using hi⟩;omega
 | [],_::_,h,_=>by simp at h | _::_,[],h,_=>by simp at h
theorem uO{v qs:List Int}{b:Nat}(h:qs.length=v.length)(i:Nat):(left v qs b).getD i 0=v.getD i 0-qs.getD i 0*v.getD b 0:=by
 unfold left;by_cases hi:i<v.length
 ·have h2:i<qs.length:=by omega
  simp[List.getD,List.getElem?_zipWith,_f hi,_f h2]
 ·have h2:¬ i<qs.length:=by omega
  simp[List.getD,List.getElem?_zipWith,_az (Nat.not_lt.mp hi),_az (Nat.not_lt.mp h2)]
theorem z4v{u v:List Int}(hl:u.length=v.length)(h:∀i,u.getD i 0=v.getD i 0):u=v:=by
 refine _bB hl λi h1 h2=>?_;have:=h i;simpa[List.getD,_f h1,_f h2] using this
theorem zdA{a b:Int}(h0:0<b)(h:b<=a):2*(a % b)<a:=by
 have h1:=_br a b;have h2:=_aF a h0;have h3:=_aL a (show b≠0 by omega);have h4:1<=a / b:=by
  have:=Int.ediv_le_ediv h0 h;rwa [Int.ediv_self (by omega)]at this
 have h5:b*1<=b*(a / b):=Int.mul_le_mul_of_nonneg_left h4 (by omega);omega
theorem zac{a b:Int}(ha:0<=a)(h0:0<b):a % b<=a:=by
 have h1:=_br a b;have h2:0<=a / b:=_co ha (by omega);have h3:0<=b*(a / b):=_cE (by omega) h2;omega
theorem zgk {v:List Int} {d:Nat×List Nat} (hv:∀x∈v,0<=x) (h:Dl v d.1 d.2):wt (left v (yc v d) d.1)<=wt v/\((∃i,i<v.length/\i∈d.2/\v.getD d.1 0<=v.getD i 0)->wt (left v (yc v d) d.1)<wt v):=by
 have hl:=xf v d;have key:∀i,(left v (yc v d) d.1).getD i 0=if i<v.length/\i∈d.2 then v.getD i 0 % v.getD d.1 0 else v.getD i 0:=λi=>by rw[uO hl,qh]
 have p:∀i,i<v.length/\i∈d.2->0<v.getD d.1 0:=λi hi=>by
  rcases h.pos with z | z;·rw[z]at hi;simp at hi
  ·exact z
 have w:=zhh (u:=left v (yc v d) d.1) (v:=v) (vg hl) λi=>by
  rw[key];split
  ·rename_i hi;have:=zac (xP hv i) (p i hi);exact zaJ _ _ (by omega)
  ·exact _h _
 refine⟨w.1,λ⟨i,h1,h2,h3⟩=>w.2 ⟨i,?_⟩⟩;rw[key,_e ⟨h1,h2⟩];have h0:=p i ⟨h1,h2⟩;have:=zdA h0 h3;have:=_aL (v.getD i 0) (show v.getD d.1 0≠0 by omega);exact zfT (by omega)
theorem zer(v:List Int):wt (rot v)=wt v:=by cases v with
 | nil=>rfl | cons a v=>simp[rot,wt];omega
theorem z96{a b:List Int}(h:∀x,x∈a ↔ x∈b)(ha:a≠[]):minL a=minL b:=by
 have hb:b≠[]:=λz=>by
  have:=(h _).mp (minL_mem ha);rw[z]at this;simp at this
 have h1:=minL_le (xs:=b) _ ((h _).mp (minL_mem ha));have h2:=minL_le (xs:=a) _ ((h _).mpr (minL_mem hb));omega
theorem zi3{v:List Int}(h:nz v≠[])(h0:v.getD 0 0≠minL (nz v)):lp (rot v)<lp v:=by cases v with
 | nil=>simp[nz]at h | cons a t=>
  have e:minL (nz (rot (a::t)))=minL (nz (a::t)):=(z96 (λx=>by rw[kL,kL,zbd]) h).symm;have m:=(kL.mp (minL_mem h)).1;have ha:a≠minL (nz (a::t)):=by simpa using h0
  unfold lp;rw[e];generalize minL (nz (a::t))=m' at *;have mt:m'∈t:=(_q.mp m).resolve_left λz=>ha z.symm;show List.idxOf m' (t++[a])<_;rw[List.idxOf_append,_e mt,List.idxOf_cons];rw[show (a==m')=false from by simpa using ha];simp
def mu(r:Rl)(v:List Int):Nat:=5*wt v+(if r=.tu then lp v else 0)
theorem Lot.step{n:Nat}{v:List Int}(r:Rl)(h:Lot n v)(he:ended v=false):Lot n (stp r v):=by
 have dl:=kg r h he;have q:=zg8 h.nn dl;refine⟨h.sz,by rw[stp,zgG,vg q.len,h.len],λx hx=>zfo q x (z7a.mp hx),?_⟩;have fin:∀x∈left v (yc v (deal r v)) (deal r v).1,0<x->∃x∈stp r v,0<x:=λx hx h0=>⟨x,z7a.mpr hx,h0⟩;rcases dl.pos with z | z
 ·obtain⟨x,hx,h0⟩:=h.pos;refine fin x ?_ h0;have:left v (yc v (deal r v)) (deal r v).1=v:=z4v (vg q.len) λi=>by rw[uO q.len,qh,z];simp
  rw[this];exact hx
 ·refine fin (v.getD (deal r v).1 0) ?_ z;have:(left v (yc v (deal r v)) (deal r v).1).getD (deal r v).1 0=v.getD (deal r v).1 0:=by rw[uO q.len,qh,_j (λw=>dl.nb w.2)]
  rw[<- this];exact getD_mem (by rw[vg q.len];exact dl.lt)
theorem zgX{n:Nat}{v:List Int}(h:Lot n v):lp v<4:=by
 have:=(z98 h.nzne).1;have:=h.len;have:=h.sz;omega
theorem z5A{n:Nat}{v:List Int}(r:Rl)(h:Lot n v)(he:ended v=false):mu r (stp r v)<mu r v:=by
 have dl:=kg r h he;have w:=zgk h.nn dl;have mn:∀j,j<v.length->v.getD j 0≠0->minL (nz v)<=v.getD j 0:=λj hj h0=>minL_le _ (kL.mpr ⟨getD_mem hj,h0⟩);have ge:∀{b:Nat},b<v.length->(others v).getD b 0≠0->v.getD b 0<=v.getD (gp v) 0:=λhb h0=>(z6Q h hb h0).2.2;cases r with
 | nx=>
  have g:=z77 h.ne;have:wt (stp .nx v)<wt v:=by
   rw[stp,z2k (by decide)];refine w.2 ⟨gp v,g.1,by simp[deal],?_⟩;rw[g.2];exact maxL_ge _ (getD_mem dl.lt)
  simp only[mu];rw[_j (by decide),_j (by decide)];omega | le=>
  have g:=z77 h.ne;have:wt (stp .le v)<wt v:=by
   rw[stp,z2k (by decide)];refine w.2 ⟨gp v,g.1,by simp[deal],?_⟩;rw[g.2];exact maxL_ge _ (getD_mem dl.lt)
  simp only[mu];rw[_j (by decide),_j (by decide)];omega | al=>
  have l:=z98 h.nzne;obtain⟨j,h1,h2,h3⟩:=zbg (p:=lp v) (z44 he) (by rw[l.2.1];exact l.2.2);have:wt (stp .al v)<wt v:=by
   rw[stp,z2k (by decide)];refine w.2 ⟨j,h2,by simp[deal,xm,h1,h2],?_⟩;show v.getD (lp v) 0<=_;rw[l.2.1];exact mn j h2 h3
  simp only[mu];rw[_j (by decide),_j (by decide)];omega | tu=>
  simp only[mu];rw[_e trivial,_e trivial];have st:Lot n (stp .tu v):=h.step .tu he;have l4:=zgX st;have same:left v (yc v (deal .tu v)) (deal .tu v).1=v->v.getD 0 0≠minL (nz v)->5*wt (stp .tu v)+lp (stp .tu v)<5*wt v+lp v:=λe h0=>by
   have e2:stp .tu v=rot v:=by rw[stp,z7N,e]
   have:=zi3 h.nzne h0;rw[e2,zer];omega
  by_cases z:v.getD 0 0=0
  ·refine same (z4v (vg (xf _ _)) λi=>?_) λq=>?_
   ·rw[uO (xf _ _),qh];rw[show (deal .tu v).2=[] from by show (if v.getD 0 0=0 then [] else xL v 0)=[];rw[_e z]];simp
   ·exact (z98 h.nzne).2.2 (by rw[<- q,z])
  ·by_cases ex:∃i,i<v.length/\i≠0/\v.getD 0 0<=v.getD i 0
   ·obtain⟨i,h1,h2,h3⟩:=ex;have:wt (stp .tu v)<wt v:=by
     rw[stp,z7N,zer];refine w.2 ⟨i,h1,?_,h3⟩;show i∈(if v.getD 0 0=0 then [] else xL v 0);rw[_j z];exact xm.mpr ⟨h1,h2⟩
    omega
   ·have nn0:=xP h.nn 0;refine same (z4v (vg (xf _ _)) λi=>?_) λq=>?_
    ·rw[uO (xf _ _),qh];split
     ·rename_i hi;have i0:i≠0:=by
       have:=hi.2;simp only[deal,_j z,xm]at this;exact this.2
      have:¬ v.getD 0 0<=v.getD i 0:=λw=>ex ⟨i,hi.1,i0,w⟩;show v.getD i 0 % v.getD 0 0=_;exact Int.emod_eq_of_lt (xP h.nn i) (by omega)
     ·rfl
    ·obtain⟨j,h1,h2,h3⟩:=zbg (p:=0) (z44 he) z;have:=mn j h2 h3;exact ex ⟨j,h2,h1,by omega⟩
theorem zis{m:Nat}:∀{v:List Int},(∀x∈v,x.toNat<2 ^ m)->wt v<=v.length*m
 | [],_=>by simp[wt] | a::v,h=>by
  have ih:=zis (v:=v) λx hx=>h x (by simp[hx]);have:=zh2 m a.toNat (h a (by simp));simp only[wt,_v,List.sum_cons,_g,Nat.succ_mul]at ih ⊢;omega
theorem zjD{n m:Nat}{v:List Int}{r:Rl}(h:Lot n v)(hb:∀x∈v,x.toNat<2 ^ m):mu r v<=20*m+3:=by
 have w:=zis hb;have l:=zgX h;have:v.length*m<=4*m:=Nat.mul_le_mul_right m (by have:=h.len;have:=h.sz;omega);unfold mu;split<;>omega
theorem zjh{n:Nat}{v:List Int}{B:Int}(r:Rl)(h:Lot n v)(he:ended v=false)(hb:∀y∈v,y<=B):∀y∈stp r v,y<=B:=λy hy=>by
 have dl:=kg r h he;have q:=zg8 h.nn dl;have hy:=z7a.mp hy;obtain⟨i,hi,rfl⟩:=_F.mp hy;have e:(left v (yc v (deal r v)) (deal r v).1)[i]=(left v (yc v (deal r v)) (deal r v).1).getD i 0:=by simp[List.getD,_f hi]
 have hi':i<v.length:=by rw[<- vg (b:=(deal r v).1) q.len];exact hi
 have b:=hb _ (getD_mem hi');rw[e,uO q.len,qh];split
 ·rename_i w;rcases dl.pos with z | z;·rw[z]at w;simp at w
  ·have:=zac (xP h.nn i) z;omega
 ·exact b
open Dd (lexN)
theorem z4k:∀a:List Int,lexN a a=false
 | []=>rfl | x::a=>by simp[lexN,z4k a]
theorem z8J:∀{a b:List Int},a≠b->lexN b a=!lexN a b
 | [],[],h=>absurd rfl h | [],_::_,_=>rfl | _::_,[],_=>rfl | x::a,y::b,h=>by
  by_cases e:x=y
  ·subst e;have:a≠b:=λz=>h (by rw[z]);simp only[lexN,_G];exact z8J this
  ·have e':¬ y=x:=λz=>e z.symm;simp only[lexN,e,e',_aB];by_cases l:x<y;·simp[l];omega
   ·simp[l];omega
theorem zaE:∀{a b c:List Int},lexN a b=true->lexN b c=true->lexN a c=true
 | [],[],_,h,_=>by simp[lexN]at h | [],_::_,[],_,h=>by simp[lexN]at h | [],_::_,_::_,_,_=>rfl | _::_,[],_,h,_=>by simp[lexN]at h | _::_,_::_,[],_,h=>by simp[lexN]at h | x::a,y::b,z::c,h1,h2=>by
  simp only[lexN]at h1 h2 ⊢;by_cases e1:x=y
  ·subst e1;by_cases e2:x=z
   ·subst e2;simp only[_G]at h1 h2 ⊢;exact zaE h1 h2
   ·simp only[e2,_aB]at h2 ⊢;exact h2
  ·simp only[e1,_aB,_an]at h1;by_cases e2:y=z
   ·subst e2;simp only[e1,_aB,_an];exact h1
   ·simp only[e2,_aB,_an]at h2;have e3:¬ x=z:=by omega
    simp only[e3,_aB,_an];omega
theorem z1Y:∀{a b:List Int}{x y:Int},a.length=b.length->(lexN a b=true\/(a=b/\x<y))->lexN (a++[x]) (b++[y])=true
 | [],[],x,y,_,h=>by
  rcases h with h | ⟨_,h⟩;·simp[lexN]at h
  ·have:¬ x=y:=by omega
   simp[lexN,this,h] | [],_::_,_,_,h,_=>by simp at h | _::_,[],_,_,h,_=>by simp at h | u::a,w::b,x,y,hl,h=>by
  simp only[_bz,lexN];by_cases e:u=w
  ·subst e;simp only[_G];refine z1Y (by simpa using hl) ?_;rcases h with h | ⟨h1,h2⟩;·exact .inl (by simpa[lexN] using h)
   ·exact .inr ⟨by simpa using h1,h2⟩
  ·simp only[e,_aB,_an];rcases h with h | ⟨h1,h2⟩;·simpa[lexN,e] using h
   ·simp at h1;exact absurd h1.1 e
abbrev Up(L:List (List Int)):Prop:=L.Pairwise λa b=>lexN a b=true
theorem Up.nodup{L:List (List Int)}(h:Up L):L.Nodup:=h.imp λ{a b} q z=>by rw[z,z4k]at q;cases q
theorem z8a{α:Type}{a b:List α}{i:Nat}{d:α}(h:i<a.length):(a++b).getD i d=a.getD i d:=by simp[_l,_o h]
theorem z8F{α:Type}{a b:List α}{i:Nat}{d:α}(h:a.length<=i):(a++b).getD i d=b.getD (i-a.length) d:=by simp[_l,_O h]
def z9M(F:List (List Int))(c:List Int):List (List Int):=F.flatMap λa=>c.map λg=>a++[g]
def xa(cs:List (List Int)):List (List Int):=cs.foldl z9M [[]]
theorem vp(cs:List (List Int))(c:List Int):xa (cs++[c])=z9M (xa cs) c:=by simp[xa]
theorem snoc_ind{α:Type}{P:List α->Prop}(h0:P [])(h1:∀l x,P l->P (l++[x]))(l:List α):P l:=by
 have:∀n (l:List α),l.length=n->P l:=by
  intro n;induction n with
  | zero=>intro l hl;rw[_ao.mp hl];exact h0 | succ n ih=>
   intro l hl;have ne:l≠[]:=λz=>by rw[z]at hl;simp at hl
   rw[<- _bn ne];exact h1 _ _ (ih _ (by simp[hl]))
 exact this _ l rfl
theorem qZ(cs:List (List Int)):∀v:List Int,v∈xa cs ↔ v.length=cs.length/\∀i,i<cs.length->v.getD i 0∈cs.getD i []:=by
 refine snoc_ind (P:=λcs=>∀v:List Int,v∈xa cs ↔ v.length=cs.length/\∀i,i<cs.length->v.getD i 0∈cs.getD i []) ?_ ?_ cs
 ·intro v;simp[xa]
 ·intro cs c ih v;rw[vp];simp only[z9M,_c9,_J];constructor
  ·rintro⟨a,ha,g,hg,rfl⟩;obtain⟨l,h⟩:=(ih a).mp ha;refine⟨by simp[l],λi hi=>?_⟩;by_cases q:i<cs.length
   ·have:=h i q;rw[z8a (a:=a) (by omega),z8a q];exact this
   ·have e:i=cs.length:=by simp at hi;omega
    subst e;rw[z8F (a:=a) (by omega),z8F (a:=cs) (by omega)];simp[l,hg]
  ·rintro⟨l,h⟩;have ne:v≠[]:=λz=>by rw[z]at l;simp at l
   refine⟨v.dropLast,(ih _).mpr ⟨by simp[l],λi hi=>?_⟩,v.getLast ne,?_,_bn ne⟩
   ·have:=h i (by simp;omega);rw[z8a hi]at this;have e:v.dropLast.getD i 0=v.getD i 0:=by
     have l':v.length=cs.length+1:=by simpa using l
     have h1:i<v.length:=by omega
     simp[_l,List.getElem?_dropLast,l',hi,_f h1]
    rw[e];exact this
   ·have:=h cs.length (by simp);rw[z8F (_h _)]at this;have e:v.getD cs.length 0=v.getLast ne:=by
     rw[List.getLast_eq_getElem];simp at l;simp[_l,l]
    rw[e]at this;simpa using this
theorem z84(cs:List (List Int)):(∀c∈cs,c.Pairwise (· < ·))->Up (xa cs):=by
 refine snoc_ind (P:=λcs=>(∀c∈cs,c.Pairwise (· < ·))->Up (xa cs)) (λ_=>by simp[xa,Up]) ?_ cs;intro cs c ih h;have ih:=ih λc hc=>h c (by simp[hc]);have hc:=h c (by simp);have hl:=λv hv=>((qZ cs v).mp hv).1;rw[vp];unfold z9M Up;rw[List.pairwise_flatMap];refine⟨λa ha=>?_,?_⟩
 ·rw[_bt];exact hc.imp λ{x y} q=>z1Y rfl (.inr ⟨rfl,q⟩)
 ·refine List.Pairwise.imp_of_mem (λ{a b} ha hb q=>?_) ih;intro x hx y hy;obtain⟨g,_,rfl⟩:=_J.mp hx;obtain⟨k,_,rfl⟩:=_J.mp hy;exact z1Y (by rw[hl a ha,hl b hb]) (.inl q)
theorem z2U(cs:List (List Int)){k:Nat}:(∀c∈cs,c.length<=k)->(xa cs).length<=k ^ cs.length:=by
 refine snoc_ind (P:=λcs=>(∀c∈cs,c.length<=k)->(xa cs).length<=k ^ cs.length) (λ_=>by simp[xa]) ?_ cs;intro cs c ih h;have ih:=ih λc hc=>h c (by simp[hc]);have hc:=h c (by simp);rw[vp];have e:(z9M (xa cs) c).length=(xa cs).length*c.length:=by
  unfold z9M;rw[List.length_flatMap];simp;induction (xa cs) with
  | nil=>simp | cons a l ih=>simp[ih,Nat.add_mul,Nat.add_comm]
 rw[e,_M,_b3,_dp];exact Nat.mul_le_mul ih hc
end Pm
namespace Pg
open L2 Dd Pm
abbrev iL(ns:List Int):List D:=ns.map D.int
theorem zl9{i:Int}{m:Nat}(h:i.natAbs<2 ^ m)(hm:m<=2000):i.natAbs<BIG:=_p h (_ar (by decide) (by omega))
theorem zhg{a b:Int}{m k:Nat}(s:Sto)(ha:a.natAbs<2 ^ m)(hm:m<=2000)(hb:b.natAbs<2 ^ k)(hk:k<=2000):qJ (.int a) (.int b) s=.ok (.int (a*b)) s:=by rw[zdY,_e ⟨zl9 ha hm,zl9 hb hk⟩]
theorem z87{a b:Int}(s:Sto)(hb:0<b):zb2 (.int a) (.int b) s=.ok (.int (a % b)) s:=by rw[zhd,_e hb]
theorem zcG{xs:List D}(s:Sto)(h:∀x∈xs,x=.bl true):zfw [.lst xs] s=.ok (.bl true) s:=by
 have e:xs=(xs.map λ_=>true).map D.bl:=by
  rw[_bj];conv=>lhs;rw[<- List.map_id xs]
  exact _a7 λx hx=>h x hx
 have b:bools xs=some (xs.map λ_=>true):=by
  conv=>lhs;rw[e]
  exact z1O _
 simp[zfw,zW,b]
theorem z0T{ns:List Int}(s:Sto)(h:ns≠[]):wl [.tup (iL ns)] s=.ok (.int (maxL ns)) s:=by cases ns with
 | nil=>exact absurd rfl h | cons n ns=>simp only[wl,zW,_A,uS]
theorem zed{ns:List Int}(s:Sto)(h:ns≠[]):z34 [.tup (iL ns)] s=.ok (.int (minL ns)) s:=by cases ns with
 | nil=>exact absurd rfl h | cons n ns=>simp only[z34,zW,_A,uS]
theorem zcY{ns:List Int}{l:Nat}{s:Sto}(h:ns≠[])(e:s[l]? = some (iL ns)):wl [.loc l] s=.ok (.int (maxL ns)) s:=by cases ns with
 | nil=>exact absurd rfl h | cons n ns=>simp only[wl,zW,e,_A,uS]
theorem zks(ps:List Int)(q:Int)(s:Sto):dIx (.tup (iL (ps++[q]))) (.int (-1)) s=.ok (.int q) s:=by
 have e:ixN (iL (ps++[q])).length (-1)=some ps.length:=by
  unfold ixN;rw[_j (by omega),_e (by simp;omega)];congr 1;simp;omega
 simp only[dIx,zW,atI,e,_A];simp
theorem zeV(ps:List Int)(q:Int)(s:Sto):dSl (.tup (iL (ps++[q]))) none (some (-1)) s=.ok (.tup (iL ps)) s:=by
 have e:Dd.cutD (iL (ps++[q])) none (some (-1))=iL ps:=by
  have e1:HT.sIx (iL (ps++[q])).length (iL (ps++[q])).length (some (-1))=ps.length:=by
   unfold HT.sIx;simp only;rw[_e (by omega)];simp;omega
  unfold Dd.cutD;rw[e1];simp[HT.sIx]
 simp only[dSl,e]
theorem jA(i:Int)(s:Sto):zY [.int i] s=.ok (.bl true) s:=by simp[zY,Mof,ki,zt,gIs,tyD,isT]
theorem z3R(xs:List D)(s:Sto)(h:2<=xs.length/\xs.length<=4):ym [.tup xs] s=.ok (.bl true) s:=by
 have h1:(2:Int)<=xs.length:=by omega
 have h2:(xs.length:Int)<=4:=by omega
 simp[ym,Mof,vM,zt,gIs,tyD,isT,ub,zW,h1,h2]
theorem z5v (ns:List Int) (s:Sto) (h:ns.length<=1000):yg [.tup (iL ns),.int ns.length] s=.ok (.bl true) s:=by
 simp[yg,Mof,qf,zt,gIs,tyD,isT,ub,zW];rw[z5H (λ_=>D.bl true) (iL ns) [] (by intro x hx;obtain⟨n,_,rfl⟩:=_J.mp hx;simp[jA]) (by simp[cap];omega)];simp only[Rb,_bl];rw[zcG s (by intro x hx;obtain⟨_,_,rfl⟩:=_J.mp hx;rfl)];simp
abbrev rD(r:List Int):D:=.tup (iL r)
theorem zi8{xs:List D}{j:Nat}{d:D}(s:Sto)(h:xs[j]? = some d):dIx (.tup xs) (.int j) s=.ok d s:=by
 have hj:j<xs.length:=(_c.mp h).1;have e:ixN xs.length (j:Int)=some j:=by
  unfold ixN;rw[_e (by omega),_e (by omega)];simp
 simp only[dIx,zW,atI,e,_A,h]
theorem ze7{n:Nat}{ar:FA}{Z:Ev}{s s1:Sto}(hn:n<=1000)(h:ar Z s=.ok [.int n] s1):z6T ar Z s=.ok (vb n,[]) s1:=by
 have c62:-(2 ^ 62)<=(n:Int)/\(n:Int)<2 ^ 62:=by omega
 rw[zeo,h,Rb];simp only;rw[_e c62,_bs]
theorem z1T(xs:List D)(i:Nat)(s:Sto):dSl (.tup xs) none (some (i:Int)) s=.ok (.tup (xs.take i)) s:=by
 have e:Dd.cutD xs none (some (i:Int))=xs.take i:=by
  unfold Dd.cutD;rw[HT.z86,HT.zaU];simp[List.take_eq_take_min]
 simp only[dSl,e]
theorem z56(xs:List D)(i:Nat)(s:Sto):dSl (.tup xs) (some (i:Int)) none s=.ok (.tup (xs.drop i)) s:=by
 have e:Dd.cutD xs (some (i:Int)) none=xs.drop i:=by
  unfold Dd.cutD;rw[HT.z86,HT.zaU];by_cases h:i<=xs.length
  ·rw[Nat.min_eq_left h];exact _bi (by simp)
  ·rw[Nat.min_eq_right (by omega)];simp[List.drop_of_length_le (show xs.length<=i by omega)]
 simp only[dSl,e]
theorem z88 {r:List Int} {j:Nat} (s:Sto) (h:j<r.length):dIx (rD r) (.int (j:Int)) s=.ok (.int (r.getD j 0)) s:=zi8 (xs:=iL r) (j:=j) (d:=.int (r.getD j 0)) s (by simp[_V,_f h,List.getD])
theorem qT{α:Type}{all:List D}{s:Sto}{body:D->Sto->R (Option D)}(g f:α->D)(p:α->Bool):∀(l:List α)(acc:List D),(∀a∈l,body (g a) s=.ok (if p a=true then some (f a) else none) s)->acc.length+l.length<=cap->uc [] all body (l.map g) acc s=.ok (acc++(l.filter p).map f) s
 | [],acc,_,_=>by simp[uc,okG] | x::xs,acc,hb,hl=>by
  have og:okG [] all s:=by intro p hp;simp at hp
  rw[_v,uc,_e og,hb x (by simp)];cases hp:p x with
  | true=>
   have ih:=qT (all:=all) g f p xs (acc++[f x]) (λy hy=>hb y (by simp[hy])) (by simp at hl ⊢;omega);have hc:acc.length<cap:=by simp at hl;omega
   simp[hc,ih,hp] | false=>
   have ih:=qT (all:=all) g f p xs acc (λy hy=>hb y (by simp[hy])) (by simp at hl ⊢;omega);simp[ih,hp]
theorem z4G{α:Type}{fi:FI}{mp:List (Option Nat)}{fg:FG}{ft:FT}{fe:FE}{Z:Ev}{s:Sto}(g f:α->D)(p:α->Bool)(ev:α->Ev)(l:List α) (hi:fi Z s=.ok (l.map g,[]) s)(hg:∀a∈l,fg (g a) (yh mp Z) s=.ok (ev a) s)(ht:∀a∈l,ft (ev a) s=.ok (p a) s)(he:∀a∈l,p a=true->fe (ev a) s=.ok (f a) s)(hl:l.length<=cap): xQ fi mp fg ft fe Z s=.ok (.lst ((l.filter p).map f)) s:=by
 rw[z8E,z7z,hi,Rb];rw[qT g f p l [] (by
  intro a ha;simp only[hg a ha,ht a ha,Rb];cases hp:p a with
  | true=>simp[he a ha hp] | false=>simp) (by simpa using hl)];rfl
theorem comp_map{α:Type}{fi:FI}{mp:List (Option Nat)}{fg:FG}{fe:FE}{Z:Ev}{s:Sto}(g f:α->D)(ev:α->Ev)(l:List α) (hi:fi Z s=.ok (l.map g,[]) s)(hg:∀a∈l,fg (g a) (yh mp Z) s=.ok (ev a) s)(he:∀a∈l,fe (ev a) s=.ok (f a) s)(hl:l.length<=cap): xQ fi mp fg z1p fe Z s=.ok (.lst (l.map f)) s:=by
 have:=z4G (ft:=z1p) g f (λ_=>true) ev l hi hg (λa _=>rfl) (λa ha _=>he a ha) hl;rw[show l.filter (λ_=>true)=l from List.filter_eq_self.mpr (by simp)]at this;exact this
theorem zdC{f:FE}{Z:Ev}{s:Sto}{xs:List D}(h:f Z s=.ok (.tup xs) s):vx f Z s=.ok (xs,[]) s:=by simp[h]
theorem qk{f:FE}{Z:Ev}{s:Sto}{xs:List D}(h:f Z s=.ok (.lst xs) s):vx f Z s=.ok (xs,[]) s:=by simp[h]
structure z9Q(n m:Nat)(v:List Int):Prop extends Lot n v where bd:∀x∈v,x<2 ^ m
theorem z9Q.abs{n m:Nat}{v:List Int}(h:z9Q n m v):∀x∈v,x.natAbs<2 ^ m:=λx hx=>by
 have h1:=h.bd x hx;have h2:=h.nn x hx;have e:(x.natAbs:Int)=x:=_ci h2;have:(x.natAbs:Int)<((2 ^ m:Nat):Int):=by rw[e];simpa using h1
 omega
theorem _root_.Pm.Lot.le4{n:Nat}{v:List Int}(h:Lot n v):v.length<=4/\2<=v.length:=by have:=h.len;have:=h.sz;omega
theorem z8p{n:Nat}{v:List Int}(h:Lot n v)(s:Sto):zS [rD v] s=.ok (.bl true) s:=by
 have l4:=h.le4;have h1:=z3R (iL v) s (by simp;omega);have h2:=z5v v s (by omega);have g1:=z0T s h.ne;have g2:=zed s h.ne;have mn:0<=minL v:=h.nn _ (minL_mem h.ne);have mx:0<maxL v:=by obtain⟨x,hx,h0⟩:=h.pos;have:=maxL_ge (xs:=v) x hx;omega
 have gl:ub [rD v] s=.ok (.int v.length) s:=by simp[ub,zW]
 have key:∀d:D,ym [d] s=.ok (.bl true) s->ub [d] s=.ok (.int v.length) s->yg [d,.int v.length] s=.ok (.bl true) s->wl [d] s=.ok (.int (maxL v)) s->z34 [d] s=.ok (.int (minL v)) s->zS [d] s=.ok (.bl true) s:=λd a1 a2 a3 a4 a5=>by simp[zS,Mof,vB,zt,a1,a2,a3,a4,a5,mn,mx]
 exact key _ h1 gl h2 g1 g2
theorem z3O{n:Nat}{v:List Int}(h:Lot n v)(s:Sto):yA [rD v] s=.ok .non s:=by
 have h1:=z8p h s;have key:∀d:D,zS [d] s=.ok (.bl true) s->yA [d] s=.ok .non s:=λd a1=>by simp[yA,Mof,z2B,zt,a1]
 exact key _ h1
theorem nzC{v:List Int}{f:FE}{Z:Ev}{s:Sto}{mp:List (Option Nat)}(hf:f Z s=.ok (rD v) s)(hl:v.length<=4):xQ (vx f) [none] (kb 0) (tOf (eOp dNe (zc 0) (eC (.int 0)))) (zc 0) Z s=.ok (.lst (iL (nz v))) s:=by
 rw[z4G D.int D.int (λx=>decide (x≠0)) (λx=>[some (.int x)]) v (zdC hf) (λa _=>by simp) (λa _=>by simp) (λa _ _=>by simp) (by simp[cap];omega)];rfl
theorem kc {n:Nat} {v:List Int} (h:Lot n v) (s:Sto):yo [rD v] s=.ok (.bl (ended v)) s:=by
 have h1:=z3O h s;have key:∀d:D,yA [d] s=.ok .non s->xQ (vx (zc 0)) [none] (kb 0) (tOf (eOp dNe (zc 0) (eC (.int 0)))) (zc 0) [some d] s=.ok (.lst (iL (nz v))) s->yo [d] s=.ok (.bl (ended v)) s:=λd a1 a2=>by
  have st:zt ["lot"] [d]=[some d]:=rfl;simp only[yo,Mof,z0I,st,_g,_i,_G];rw[zq (Z':=[some d]) (s':=s) (by simp[a1])];simp only[qu,xg,wB,xi,zo,zH,z25,a2,Rb];simp only[ub,zW,Rb,z9c,_I];have:decide (((nz v).length:Int)=1)=ended v:=by
   unfold ended;by_cases e:(nz v).length=1;·simp[e]
   ·have:¬ ((nz v).length:Int)=1:=by omega
    simp[e,this]
  rw[this]
 exact key _ h1 (nzC (mp:=[]) (by simp) h.le4.1)
end Pg
namespace Pm
open L2 (maxL minL maxL_ge maxL_mem minL_le minL_mem n3)
theorem zaz{l k:List Int}(h:l.length=k.length)(e:∀i,i<l.length->l.getD i 0=k.getD i 0):l=k:=by
 apply _bB h;intro i h1 h2;have:=e i h1;rw[_l,_l,_f h1,_f h2]at this;simpa using this
def z1h(left d most:Int):List Int:=if left<d then (List.range (n3 left (most+1) d)).map λk=>left+((k:Nat):Int)*d else []
theorem zd2{x d most:Int}(h0:0<=x)(hm:x<=most)(hd:0<d):x∈z1h (x % d) d most:=by
 have l1:=_aL x (by omega:d≠0);have l2:=_aF x hd;have e:=_br x d;have q0:0<=x / d:=_co h0 (by omega);have l3:x % d<=x:=by have:=_cE (show 0<=d by omega) q0;omega
 unfold z1h;rw[_e l2,_J];refine⟨(x / d).toNat,?_,by rw[Int.toNat_of_nonneg q0,_do];omega⟩;rw[_aI];unfold n3;rw[_e (by omega)];have h1:x / d<=(most-x % d) / d:=by
  refine (Int.le_ediv_iff_mul_le hd).mpr ?_;rw[_do];omega
 rw[show most+1-x % d-1=most-x % d by omega];omega
theorem zcV{left d most x:Int}(h0:0<=left)(h:x∈z1h left d most):0<=x:=by
 unfold z1h at h;split at h
 ·rename_i q;obtain⟨k,_,rfl⟩:=_J.mp h;have:=_cE (show (0:Int)<=(k:Int) by omega) (show 0<=d by omega);omega
 ·cases h
theorem zct{left d most:Int}(h0:0<=left):(z1h left d most).Pairwise (· < ·):=by
 unfold z1h;split
 ·rename_i q;rw[_bt];refine List.pairwise_lt_range.imp λ{a b} h=>?_;have:((a:Nat):Int)*d<((b:Nat):Int)*d:=Int.mul_lt_mul_of_pos_right (by omega) (by omega);omega
 ·exact List.Pairwise.nil
theorem zbQ{left d most:Int}(h0:0<=left)(hm:0<=most):((z1h left d most).length:Int)<=most+1:=by
 unfold z1h;split
 ·rename_i q;rw[_I,_cR];unfold n3;split
  ·rename_i q2;have h1:(most+1-left-1) / d<=most+1-left-1:=_de _ (by omega);omega
  ·omega
 ·simp;omega
def zP(w:List Int)(b:Nat)(most:Int):List (List Int):=w.zipIdx.map λp=>if p.2=b then [p.1] else z1h p.1 (w.getD b 0) most
theorem vP{w:List Int}{b:Nat}{most:Int}{i:Nat}(hi:i<w.length):(zP w b most).getD i []=if i=b then [w.getD i 0] else z1h (w.getD i 0) (w.getD b 0) most:=by simp[zP,_l,hi]
theorem qo(w:List Int)(b:Nat)(most:Int):(zP w b most).length=w.length:=by simp[zP]
def z0A(w:List Int)(b:Nat)(most:Int):List (List Int):=if w.getD b 0=0 then [w] else xa (zP w b most)
theorem z85 {v w:List Int} {b:Nat} {most:Int} (hl:w.length=v.length) (hb:b<v.length) (e1:w.getD b 0=v.getD b 0) (hp:0<v.getD b 0) (e2:∀i,i<v.length->i≠b->w.getD i 0=v.getD i 0 % v.getD b 0) (h0:∀x∈v,0<=x) (hm:∀x∈v,x<=most):v∈z0A w b most:=by
 unfold z0A;rw[_j (by omega),qZ,qo];refine⟨hl.symm,λi hi=>?_⟩;rw[vP hi];have m:=getD_mem (v:=v) (i:=i) (by omega);by_cases q:i=b;·rw[_e q,q,e1];simp
 ·rw[_j q,e2 i (by omega) q,e1];exact zd2 (h0 _ m) (hm _ m) hp
theorem z8M{w:List Int}{b:Nat}{most:Int}(h:∀x∈w,0<=x):∀c∈zP w b most,c.Pairwise (· < ·):=λc hc=>by
 unfold zP at hc;obtain⟨p,hp,rfl⟩:=_J.mp hc;have hx:p.1∈w:=by
  have:=List.mem_zipIdx_iff_getElem?.mp (show (p.1,p.2)∈w.zipIdx from hp);exact _C this
 split;·simp
 ·exact zct (h _ hx)
theorem z8o{w:List Int}{b:Nat}{most:Int}(h:∀x∈w,0<=x):Up (z0A w b most):=by
 unfold z0A;split;·simp[Up]
 ·exact z84 _ (z8M h)
theorem z66 {n:Nat} {w:List Int} {b:Nat} {most:Int} (h:Lot n w) (hb:b<w.length):∀a∈z0A w b most,Lot n a:=λa ha=>by
 unfold z0A at ha;split at ha
 ·have:a=w:=by simpa using ha
  rw[this];exact h
 ·rename_i q;obtain⟨l,k⟩:=(qZ _ a).mp ha;rw[qo]at l k;have nn:∀x∈a,0<=x:=λx hx=>by
   obtain⟨i,hi,rfl⟩:=_F.mp hx;have:=k i (by omega);rw[vP (by omega)]at this;have e:a.getD i 0=a[i]:=by simp[_l,hi]
   rw[e]at this;have w0:=h.nn _ (getD_mem (v:=w) (i:=i) (by omega));split at this;·rw[_aU.mp this];exact w0
   ·exact zcV w0 this
  refine⟨h.sz,by rw[l,h.len],nn,⟨a.getD b 0,getD_mem (by omega),?_⟩⟩;have:=k b hb;rw[vP hb,_e rfl]at this;have w0:=h.nn _ (getD_mem (v:=w) (i:=b) hb);rw[_aU.mp this];omega
noncomputable def zkU(g:List Int)(most:Int):List (List Int):=(List.range g.length).flatMap λi=>(List.range (most-g.getD i 0).toNat).map λk=>g.take i++[g.getD i 0+1+((k:Nat):Int)]++g.drop (i+1)
theorem zfs{g:List Int}{i j:Nat}{x:Int}(hi:i<g.length):(g.take i++[x]++g.drop (i+1)).getD j 0=if j=i then x else g.getD j 0:=by
 have e:g.take i++[x]++g.drop (i+1)=g.set i x:=by rw[_bT,_e hi];simp
 rw[e];by_cases q:j=i;·subst q;simp[_l,hi]
 ·have:¬ i=j:=λz=>q z.symm;simp[_l,q,List.getElem?_set,this]
theorem zbv{g:List Int}{i:Nat}{x:Int}(hi:i<g.length):(g.take i++[x]++g.drop (i+1)).length=g.length:=by simp;omega
noncomputable def ahead(r:Rl)(g:List Int)(most:Int):List (List Int):=match r with
 | .tu=>z0A (g.drop (g.length-1)++g.take (g.length-1)) 0 most | .al=>z0A g (g.idxOf (maxL g)) most | _=>zkU g most
theorem qg{v:List Int}{b:Nat}{gone:List Nat}{i:Nat}(hi:i<v.length):(left v (yc v (b,gone)) b).getD i 0=if i∈gone then v.getD i 0 % v.getD b 0 else v.getD i 0:=by
 have hq:(yc v (b,gone)).getD i 0=if i∈gone then v.getD i 0 / v.getD b 0 else 0:=by simp[yc,_l,hi]
 have hl:(yc v (b,gone)).length=v.length:=xf _ _;have e:(left v (yc v (b,gone)) b).getD i 0=v.getD i 0-(yc v (b,gone)).getD i 0*v.getD b 0:=by simp[left,_l,hi,hl]
 rw[e,hq];split;·rw[Int.emod_def,_do]
 ·simp
theorem zkN{w:List Int}(h:w≠[]):(rot w).drop ((rot w).length-1)++(rot w).take ((rot w).length-1)=w:=by cases w with
 | nil=>exact absurd rfl h | cons x w=>simp[rot]
theorem zbS {n:Nat} {v g:List Int} {r:Rl} {most:Int} (h:Lot n v) (he:ended v=false) (hm:∀x∈v,x<=most) (e:stp r v=g):v∈ahead r g most:=by
 have dl:=kg r h he;have lw:(left v (yc v (deal r v)) (deal r v).1).length=v.length:=by simp[left,xf]
 cases r with
 | tu=>
  have e1:rot (left v (yc v (deal .tu v)) (deal .tu v).1)=g:=by rw[<- e];unfold stp;rw[z7N]
  have ne:left v (yc v (deal .tu v)) (deal .tu v).1≠[]:=λz=>by rw[z]at lw;exact h.ne (_ao.mp lw.symm)
  show v∈z0A (g.drop (g.length-1)++g.take (g.length-1)) 0 most;rw[<- e1,zkN ne];have hl0:0<v.length:=_bE.mpr h.ne;by_cases q:v.getD 0 0=0
  ·have e2:deal .tu v=(0,[]):=by show (0,if v.getD 0 0=0 then [] else xL v 0)=_;rw[_e q]
   have ev:left v (yc v (0,[])) 0=v:=by
    apply _bB;·simp[left,xf]
    ·intro i h1 h2;have:=qg (v:=v) (b:=0) (gone:=[]) (i:=i) h2;simpa[_l,h1,h2] using this
   rw[e2,ev];unfold z0A;rw[_e q];simp
  ·have e2:deal .tu v=(0,xL v 0):=by show (0,if v.getD 0 0=0 then [] else xL v 0)=_;rw[_j q]
   have p0:0<v.getD 0 0:=by have:=xP h.nn 0;omega
   rw[e2]at lw ⊢;refine z85 lw hl0 ?_ p0 (λi hi hib=>?_) h.nn hm;·rw[qg hl0,_j (by rw[xm];omega)]
   ·rw[qg hi,_e (xm.mpr ⟨hi,hib⟩)] | al=>
  have e1:left v (yc v (lp v,xL v (lp v))) (lp v)=g:=by rw[<- e];unfold stp;rw[z2k (by decide)];rfl
  obtain⟨l1,l2,l3⟩:=z98 h.nzne;have p0:0<v.getD (lp v) 0:=by have:=xP h.nn (lp v);omega
  have gl:g.length=v.length:=by rw[<- e1];simp[left,xf]
  have gb:g.getD (lp v) 0=v.getD (lp v) 0:=by rw[<- e1,qg l1,_j (by rw[xm];omega)]
  have go:∀i,i<v.length->i≠lp v->g.getD i 0=v.getD i 0 % v.getD (lp v) 0:=λi hi hib=>by rw[<- e1,qg hi,_e (xm.mpr ⟨hi,hib⟩)]
  have gne:g≠[]:=λz=>by rw[z]at gl;exact h.ne (_ao.mp gl.symm)
  have ix:g.idxOf (maxL g)=lp v:=by
   obtain⟨i1,i2⟩:=z3N (maxL_mem gne);by_cases q:g.idxOf (maxL g)=lp v;·exact q
   ·exfalso;have h1:=go _ (by omega) q;have h2:=maxL_ge (xs:=g) _ (getD_mem (v:=g) (i:=lp v) (by omega));have h3:=_aF (v.getD (g.idxOf (maxL g)) 0) p0;omega
  show v∈z0A g (g.idxOf (maxL g)) most;rw[ix];exact z85 gl l1 gb p0 go h.nn hm | nx=>
  have e1:left v (yc v ((deal .nx v).1,[gp v])) (deal .nx v).1=g:=by rw[<- e];unfold stp;rw[z2k (by decide)];rfl
  exact one_in h hm dl.lt (λz=>dl.nb (by rw[z];simp[deal])) (dl.pos.resolve_left (by simp[deal])) e1 | le=>
  have e1:left v (yc v ((deal .le v).1,[gp v])) (deal .le v).1=g:=by rw[<- e];unfold stp;rw[z2k (by decide)];rfl
  exact one_in h hm dl.lt (λz=>dl.nb (by rw[z];simp[deal])) (dl.pos.resolve_left (by simp[deal])) e1
where
 one_in {n:Nat} {v g:List Int} {most:Int} {b:Nat} (h:Lot n v) (hm:∀x∈v,x<=most) (hb:b<v.length) (nb:b≠gp v) (hp:0<v.getD b 0) (e1:left v (yc v (b,[gp v])) b=g):v∈zkU g most:=by
  obtain⟨g1,g2⟩:=z77 h.ne;have gl:g.length=v.length:=by rw[<- e1];simp[left,xf]
  have gg:g.getD (gp v) 0=v.getD (gp v) 0 % v.getD b 0:=by rw[<- e1,qg g1,_e (by simp)]
  have go:∀i,i<v.length->i≠gp v->g.getD i 0=v.getD i 0:=λi hi hib=>by rw[<- e1,qg hi,_j (by simpa using hib)]
  have l1:=_aF (v.getD (gp v) 0) hp;have l2:=_aL (v.getD (gp v) 0) (by omega:v.getD b 0≠0);have l3:=maxL_ge (xs:=v) _ (getD_mem (v:=v) (i:=b) hb);have l4:=hm _ (getD_mem (v:=v) (i:=gp v) g1);unfold zkU;refine _c9.mpr ⟨gp v,by simpa using (by omega:gp v<g.length),_J.mpr ⟨(v.getD (gp v) 0-g.getD (gp v) 0-1).toNat,?_,?_⟩⟩;·rw[_aI];omega
  ·have hk:g.getD (gp v) 0+1+(((v.getD (gp v) 0-g.getD (gp v) 0-1).toNat:Nat):Int)=v.getD (gp v) 0:=by omega
   rw[hk];refine zaz (by rw[zbv (by omega),gl]) λi hi=>?_;rw[zbv (by omega),gl]at hi;rw[zfs (by omega)];split;·rename_i q;rw[q]
   ·rename_i q;exact go i hi q
end Pm
namespace Pg
open L2 Dd Pm
def nmR:Rl->Str | .nx=>"next" | .le=>"least" | .al=>"all" | .tu=>"turn"
theorem z82{fo fv:FE}{Z:Ev}{s:Sto}{v:List Int}{k:Int}(h1:fo Z s=.ok (rD v) s)(h2:fv Z s=.ok (.int k) s)(hk:k∈v):zbH fo fv Z s=.ok (.int (v.idxOf k:Nat)) s:=by simp only[zh5,h1,h2,Rb,uS,_e hk]
theorem z3U {n:Nat} {v:List Int} (h:Lot n v) (s:Sto):zB [rD v] s=.ok (.tup [.int (gp v:Nat),rD (others v)]) s:=by
 have l4:=h.le4;have g1:=z0T s h.ne;have key:∀d:D,d=rD v->zB [d] s=.ok (.tup [.int (gp v:Nat),rD (others v)]) s:=λd hd=>by
  have st:zt ["lot","at"] [d]=[some d,none]:=rfl;have gm:wl [d] s=.ok (.int (maxL v)) s:=by rw[hd];exact g1
  have i1:zbH (zc 0) (zi wl (za (zc 0) zk)) [some d,none] s=.ok (.int (gp v:Nat)) s:=z82 (by simp[hd]) (by simp[gm]) (maxL_mem h.ne);simp only[zB,Mof,wn,st,_g,_i,_G];rw[zq (Z':=[some d,some (.int (gp v:Nat))]) (s':=s) (by rw[xH,ya,i1];simp)];have e1:=z1T (iL v) (gp v) s;have e2:=z56 (iL v) (gp v+1) s;rw[show (((gp v+1:Nat):Int))=(gp v:Int)+1 from rfl]at e2;simp only[xN,xg,uH,zo,zH,xV,wB,z9G,uP,z0u,z25,_u,_t,Rb,z5M,hd,e1,e2];rw[_e (by simp[cap]),Rb,kQ,_e (by simp[cap];omega),Rb,e2,Rb,kQ,_e (by simp[cap];omega),Rb,Rb,Rb,_e (by simp[cap])];simp[others,List.map_take,List.map_drop]
 exact key _ rfl
theorem z07 {v:List Int} (h:nz v≠[]) (hl:v.length<=4) (s:Sto):zZ [rD v] s=.ok (.int (lp v:Nat)) s:=by
 have key:∀d:D,d=rD v->zZ [d] s=.ok (.int (lp v:Nat)) s:=λd hd=>by
  have st:zt ["lot"] [d]=[some d]:=rfl;have c:=nzC (mp:=[]) (f:=zc 0) (Z:=[some d]) (s:=s) (v:=v) (by simp[hd]) hl;have gm:z34 [.lst (iL (nz v))] s=.ok (.int (minL (nz v))) s:=by
   obtain⟨a,t,e⟩:=List.exists_cons_of_ne_nil h;rw[e];simp only[z34,zW,_A,iL];rw[uS]
  simp only[zZ,Mof,jJ,st,_g,_i,_G,jf,xg];rw[z82 (v:=v) (k:=minL (nz v)) (by simp[hd]) (by rw[xi,zo,c];simp only[Rb,zH,gm]) (kL.mp (minL_mem h)).1];rfl
 exact key _ rfl
abbrev nL(l:List Nat):List D:=l.map λi=>D.int ((i:Nat):Int)
theorem z6m {v:List Int} (p:Nat) (hl:v.length<=4) (s:Sto):xu [rD v,.int (p:Nat)] s=.ok (.lst (nL (xL v p))) s:=by
 have key:∀d:D,ub [d] s=.ok (.int v.length) s->xu [d,.int (p:Nat)] s=.ok (.lst (nL (xL v p))) s:=λd hd=>by
  have st:zt ["lot","place"] [d,.int (p:Nat)]=[some d,some (.int (p:Nat))]:=rfl;have ir:z6T (za (zi ub (za (zc 0) zk)) zk) [some d,some (.int (p:Nat))] s=.ok ((List.range v.length).map λi=>D.int ((i:Nat):Int),[]) s:=by
   rw[ze7 (n:=v.length) (s1:=s) (by omega) (by simp[hd])];rfl
  simp only[xu,Mof,z3B,st,_g,_i,_G,z29,xg];rw[z4G (λi:Nat=>D.int ((i:Nat):Int)) (λi:Nat=>D.int ((i:Nat):Int)) (λi=>decide (i≠p)) (λi=>[some (.int (p:Nat)),some (.int (i:Nat))]) (List.range v.length) ir (λa _=>by simp) (λa _=>by
   have:decide ((a:Int)≠(p:Nat))=decide (a≠p):=by
    by_cases e:a=p;·simp[e]
    ·have:¬ (a:Int)=(p:Nat):=by omega
     simp[e,this]
   simp only[z7B,wB,xV,_t,_u,Rb,zka,this]) (λa _ _=>by simp) (by simp[cap];omega)];rfl
 exact key _ (by simp[ub,zW])
abbrev z2G(d:Nat×List Nat):D:=.tup [.int d.1,.lst (nL d.2)]
theorem za6 {n:Nat} {v:List Int} (h:Lot n v) (s:Sto):wI [rD v] s=.ok (z2G (deal .nx v)) s:=by
 have ne:others v≠[]:=λz=>by
  have:=vq h.ne;rw[z]at this;exact h.ne (_ao.mp this.symm)
 have g:=z3U h s;have g1:=z0T (ns:=others v) s ne;have key:∀d e:D,e=rD (others v)->zB [d] s=.ok (.tup [.int (gp v:Nat),e]) s->wI [d] s=.ok (z2G (deal .nx v)) s:=λd e he hg=>by
  have st:zt ["lot","greatest","others"] [d]=[some d,none,none]:=rfl;have gm:wl [e] s=.ok (.int (maxL (others v))) s:=by rw[he];exact g1
  simp only[wI,Mof,z3H,st,_g,_i,_G];rw[zq (Z':=[some d,some (.int (gp v:Nat)),some e]) (s':=s) (by simp[hg])];have ix:zbH (zc 2) (zi wl (za (zc 2) zk)) [some d,some (.int (gp v:Nat)),some e] s=.ok (.int ((others v).idxOf (maxL (others v)):Nat)) s:=z82 (v:=others v) (by simp[he]) (by simp[gm]) (maxL_mem ne);simp only[z2K,xg,uH,zo,ix,Rb,zH,wo,xV,_u,_t];simp[cap,deal]
 exact key _ _ rfl g
theorem z9H {n:Nat} {v:List Int} (h:Lot n v) (he:ended v=false) (s:Sto):xD [rD v] s=.ok (z2G (deal .le v)) s:=by
 have g:=z3U h s;have lpo:=z07 (z1W h he) (by rw[vq h.ne];exact h.le4.1) s;have key:∀d e:D,zZ [e] s=.ok (.int (lp (others v):Nat)) s->zB [d] s=.ok (.tup [.int (gp v:Nat),e]) s->xD [d] s=.ok (z2G (deal .le v)) s:=λd e he hg=>by
  have st:zt ["lot","greatest","others"] [d]=[some d,none,none]:=rfl;simp only[xD,Mof,z2A,st,_g,_i,_G];rw[zq (Z':=[some d,some (.int (gp v:Nat)),some e]) (s':=s) (by simp[hg])];simp[he,cap,deal]
 exact key _ _ lpo g
theorem zd7 {n:Nat} {v:List Int} (h:Lot n v) (s:Sto):uq [rD v] s=.ok (z2G (deal .al v)) s:=by
 have lpo:=z07 h.nzne h.le4.1 s;have ab:=z6m (v:=v) (lp v) h.le4.1 s;have key:∀d:D,zZ [d] s=.ok (.int (lp v:Nat)) s->xu [d,.int (lp v:Nat)] s=.ok (.lst (nL (xL v (lp v)))) s->uq [d] s=.ok (z2G (deal .al v)) s:=λd h1 h2=>by
  have st:zt ["lot","by"] [d]=[some d,none]:=rfl;simp only[uq,Mof,z6p,st,_g,_i,_G];rw[zq (Z':=[some d,some (.int (lp v:Nat))]) (s':=s) (by simp[h1])];simp[h2,cap,deal]
 exact key _ lpo ab
theorem zaF {n:Nat} {v:List Int} (h:Lot n v) (s:Sto):wJ [rD v] s=.ok (z2G (deal .tu v)) s:=by
 have ab:=z6m (v:=v) 0 h.le4.1 s;have i0:dIx (rD v) (.int 0) s=.ok (.int (v.getD 0 0)) s:=z88 (j:=0) s (by have:=h.le4.2;omega);have key:∀d:D,dIx d (.int 0) s=.ok (.int (v.getD 0 0)) s->xu [d,.int 0] s=.ok (.lst (nL (xL v 0))) s->wJ [d] s=.ok (z2G (deal .tu v)) s:=λd h1 h2=>by
  have st:zt ["lot"] [d]=[some d]:=rfl;simp only[wJ,Mof,z3Q,st,_g,_i,_G];by_cases z:v.getD 0 0=0;·rw[z3T (d:=z2G (deal .tu v)) (s':=s) (by
    rw[z]at h1;have e:deal .tu v=(0,[]):=by show (0,if v.getD 0 0=0 then [] else xL v 0)=_;rw[_e z]
    rw[e];simp[h1,cap])]
  ·rw[zq (Z':=[some d]) (s':=s) (by
    have:¬ v.getD 0 0=0:=z;generalize v.getD 0 0=y at *;simp[h1,this])];have e:deal .tu v=(0,xL v 0):=by show (0,if v.getD 0 0=0 then [] else xL v 0)=_;rw[_j z]
   rw[e];simp[h2,cap]
 exact key _ i0 ab
theorem zaC(r:Rl)(s:Sto):yC [.str (nmR r)] s=.ok (.bl true) s:=by
 have l:∀r,(qw.lookup (nmR r)).isSome=true:=λr=>by cases r<;>decide
 have l:=l r;obtain⟨y,l⟩:=_aA.mp l;generalize nmR r=x at *;simp[yC,Mof,z3D,zt,gIs,tyD,isT,l]
theorem vK(r:Rl)(s:Sto):yH [.str (nmR r)] s=.ok .non s:=by
 have l:=zaC r s;generalize nmR r=x at *;simp[yH,Mof,z0Z,zt,l]
theorem z1P{n:Nat}{v:List Int}(r:Rl)(h:Lot n v)(s:Sto):zI [.str (nmR r),rD v] s=.ok .non s:=by
 have h1:=vK r s;have h2:=z3O h s;have key:∀d e:D,yH [d] s=.ok .non s->yA [e] s=.ok .non s->zI [d,e] s=.ok .non s:=λd e a1 a2=>by simp[zI,Mof,va,zt,a1,a2]
 exact key _ _ h1 h2
theorem z7i{n:Nat}{v:List Int}(r:Rl)(h:Lot n v)(he:ended v=false)(s:Sto):xj [.str (nmR r),rD v] s=.ok .non s:=by
 have h1:=z1P r h s;have h2:=kc h s;rw[he]at h2;have key:∀d e:D,zI [d,e] s=.ok .non s->yo [e] s=.ok (.bl false) s->xj [d,e] s=.ok .non s:=λd e a1 a2=>by simp[xj,Mof,z18,zt,a1,a2]
 exact key _ _ h1 h2
def dfR:Rl->Str | .nx=>"by_next" | .le=>"by_least" | .al=>"by_all" | .tu=>"by_turn"
noncomputable def MR:Rl->Mir | .nx=>wI | .le=>xD | .al=>uq | .tu=>wJ
theorem zlB{n:Nat}{v:List Int}(r:Rl)(h:Lot n v)(he:ended v=false)(s:Sto):MR r [rD v] s=.ok (z2G (deal r v)) s:=by cases r with
 | nx=>exact za6 h s | le=>exact z9H h he s | al=>exact zd7 h s | tu=>exact zaF h s
theorem zjC(r:Rl):qw.lookup (nmR r)=some (dfR r):=by cases r<;>decide
theorem zlY(r:Rl):([("by_next",wI),("by_least",xD),("by_all",uq),("by_turn",wJ)]:List (Str×Mir)).lookup (dfR r)=some (MR r):=by
 cases r;·rfl
 ·rfl
 ·rfl
 ·rfl
theorem zkG(i:Nat)(l:List Nat)(s:Sto):za2 false (.int i) (.lst (nL l)) s=.ok (.bl (decide (i∈l))) s:=by
 have e:∀l:List Nat,je (nL l)=some (l.map λj=>V.int ((j:Nat):Int)):=by
  intro l;induction l with
  | nil=>rfl | cons a l ih=>simp only[nL]at ih;simp[nL,je,z28,ih]
 have e2:∀l:List Nat,inV (.int i) (l.map λj=>V.int ((j:Nat):Int))=decide (i∈l):=by
  intro l;induction l with
  | nil=>rfl | cons a l ih=>
   simp only[inV,_v,_bG]at ih ⊢;rw[ih];by_cases q:i=a;·subst q;simp[eqV]
   ·have q':¬ (a:Int)=i:=by omega
    simp[eqV,q,q']
 simp only[za2,z28,zW,_A,e,e2];rfl
theorem ziz(x:List D)(s:Sto):z01 [.lst x] s=.ok (.tup x) s:=by simp[z01,zW]
theorem z8W {n m:Nat} {v:List Int} (r:Rl) (h:z9Q n m v) (he:ended v=false) (hm:m<=1999) (s:Sto):xo [.str (nmR r),rD v] s=.ok (.tup [.int ((deal r v).1:Nat),.lst (iL (yc v (deal r v)))]) s:=by
 have dl:=kg r h.toLot he;have l4:=h.toLot.le4;have by_:=zlB r h.toLot he s;have ixs:∀i,i<v.length->dIx (rD v) (.int ((i:Nat):Int)) s=.ok (.int (v.getD i 0)) s:=λi hi=>z88 s hi;have gl:ub [rD v] s=.ok (.int v.length) s:=by simp[ub,zW]
 have key:∀d e:D,e=.str (nmR r)->MR r [d] s=.ok (z2G (deal r v)) s->ub [d] s=.ok (.int v.length) s->(∀i,i<v.length->dIx d (.int ((i:Nat):Int)) s=.ok (.int (v.getD i 0)) s)->xo [e,d] s=.ok (.tup [.int ((deal r v).1:Nat),.lst (iL (yc v (deal r v)))]) s:=λd e he' h1 h2 h3=>by
  have st:zt ["rule","lot","deal","by","divided"] [e,d]=[some e,some d,none,none,none]:=rfl;simp only[xo,Mof,z2Z,st,_g,_i,_G];have lk:=zjC r;have lm:=zlY r;rw[zq (Z':=[some e,some d,some (.fn (dfR r)),none,none]) (s':=s) (by
   generalize dfR r=y at *;simp[he',lk])];rw[zq (Z':=[some e,some d,some (.fn (dfR r)),some (.int ((deal r v).1:Nat)),some (.lst (nL (deal r v).2))]) (s':=s) (by
   rw[z0U,ziV,zda];simp only[_u,_t];rw[lm];simp only[zo,zH,xV,_u,_t,Rb,h1,zeL,_bh,_bg])];have ir:z6T (za (zi ub (za (zc 1) zk)) zk) [some e,some d,some (.fn (dfR r)),some (.int ((deal r v).1:Nat)),some (.lst (nL (deal r v).2))] s=.ok ((List.range v.length).map λi=>D.int ((i:Nat):Int),[]) s:=by
   rw[ze7 (n:=v.length) (s1:=s) (by omega) (by simp[h2])];rfl
  have c:=comp_map (mp:=[some 4,some 1,some 3,none]) (fg:=kb 3) (fe:=eIf (tOf (eOp (za2 false) (zc 3) (zc 0))) (eOp z79 (eOp dIx (zc 1) (zc 3)) (eOp dIx (zc 1) (zc 2))) (eC (.int 0))) (λi:Nat=>D.int ((i:Nat):Int)) (λi:Nat=>D.int (if i∈(deal r v).2 then v.getD i 0 / v.getD (deal r v).1 0 else 0)) (λi=>[some (.lst (nL (deal r v).2)),some d,some (.int ((deal r v).1:Nat)),some (.int (i:Nat))]) (List.range v.length) ir (λa _=>by simp) (λi hi=>by
    have hi':i<v.length:=by simpa using hi
    have i1:=zkG i (deal r v).2 s;have e1:=h3 i hi';have e2:=h3 _ dl.lt;simp only[zbu,z7B,wB,xV,z25,_u,_t,Rb,i1,e1,e2];by_cases q:i∈(deal r v).2
    ·have p0:0<v.getD (deal r v).1 0:=by
      rcases dl.pos with z | z;·rw[z]at q;simp at q
      ·exact z
     have p1:v.getD (deal r v).1 0<2 ^ 2000:=Int.lt_of_lt_of_le (h.bd _ (Pm.getD_mem dl.lt)) (by
      have:(2:Nat) ^ m<=2 ^ 2000:=_ar (by decide) (by omega);have:=Int.ofNat_le.mpr this;simpa using this);have big:(v.getD (deal r v).1 0).natAbs<BIG:=_p (h.abs _ (Pm.getD_mem dl.lt)) (_ar (by decide) (by omega));simp only[q,decide_true,_G];rw[zb6,_e ⟨p0,big⟩]
    ·simp only[q,decide_false,_aB];rfl) (by simp[cap];omega);simp only[z16,xg,uH,zo,c,Rb,zH,xV,_u,_t];rw[_e (by simp[cap])];simp[yc,_b1]
 exact key _ _ rfl by_ gl ixs
theorem eq_str{a b:Str}(ha:PyData.strOk a=true)(hb:PyData.strOk b=true)(s:Sto):dEq (.str a) (.str b) s=.ok (.bl (a==b)) s:=by simp[dEq,zdm,eqD,xK,PyData.eqv,SeqAt.shaped,PyData.canLay0,PyData.depth,ha,hb]
theorem zes(r:Rl):PyData.strOk (nmR r)=true:=by cases r<;>decide +kernel
theorem zbA(r:Rl)(s:Sto):dEq (.str (nmR r)) (.str "turn") s=.ok (.bl (decide (r=.tu))) s:=by
 rw[eq_str (zes r) (by decide +kernel)];congr 2;cases r<;>decide +kernel
theorem zfN(r:Rl)(xs:List D)(hl:xs.length<=4)(s:Sto):qP [.str (nmR r),.tup xs] s=.ok (.tup (mvd r xs)) s:=by
 have e1:=z1T xs 1 s;have e2:=z56 xs 1 s;have cp:(xs.drop 1).length+(xs.take 1).length<=cap:=by simp[cap];omega
 have key:∀d e:D,d=.str (nmR r)->e=.tup xs->qP [d,e] s=.ok (.tup (mvd r xs)) s:=λd e hd he=>by
  have st:zt ["rule","numbers"] [d,e]=[some d,some e]:=rfl;have t:tOf (eOp dEq (zc 0) (eC (.str "turn"))) [some d,some e] s=.ok (decide (r=.tu)) s:=by simp only[z7B,wB,xV,z25,_u,Rb,hd,zbA]
  simp only[qP,Mof,z8G,st,_g,_i,_G,z5R,xg,zbu,t,Rb];by_cases q:r=.tu
  ·simp only[q,decide_true,_G];subst q;rw[z7N];simp only[wB,z9G,xV,uP,z0u,z25,_u,_t,Rb,he];rw[show (1:Int)=((1:Nat):Int) from rfl,e2,Rb,e1,Rb,kQ,_e cp];rfl
  ·simp only[q,decide_false];rw[z2k q];simp[he]
 exact key _ _ rfl rfl
theorem z8r{α β:Type}(f:α->D)(g:β->D):∀(l:List α)(k:List β),z6L (l.map f) (k.map g)=(l.zip k).map λp=>D.tup [f p.1,g p.2]
 | [],_=>by simp[z6L] | _::_,[]=>by simp[z6L] | a::l,b::k=>by simp[z6L,z8r f g l k]
theorem zgu{α β:Type}(r:Rl)(f:α->β)(xs:List α):mvd r (xs.map f)=(mvd r xs).map f:=by unfold mvd rot;split<;>simp[List.map_take,List.map_drop]
theorem z9Q.q{n m:Nat}{v:List Int}(r:Rl)(h:z9Q n m v)(he:ended v=false):Qs v (deal r v).1 (yc v (deal r v)):=zg8 h.nn (kg r h.toLot he)
theorem zjP{n m:Nat}{v:List Int}(r:Rl)(h:z9Q n m v)(he:ended v=false):∀q∈yc v (deal r v),0<=q/\q<2 ^ m:=λq hq=>by
 have Q:=h.q r he;refine⟨Q.nn q hq,?_⟩;obtain⟨i,hi,rfl⟩:=_F.mp hq;have hi':i<v.length:=by rw[<- Q.len];exact hi
 simp only[yc,List.getElem_map,List.getElem_range];have b:=h.bd _ (Pm.getD_mem hi');have n0:=xP h.nn i;split
 ·have:=_de (v.getD (deal r v).1 0) n0;omega
 ·omega
theorem zeh {n m:Nat} {v:List Int} (r:Rl) (h:z9Q n m v) (he:ended v=false) (hm:m<=1999) (s:Sto):M_step [.str (nmR r),rD v] s=.ok (rD (stp r v)) s:=by
 have l4:=h.toLot.le4;have w:=z7i r h.toLot he s;have dv:=z8W r h he hm s;have Q:=h.q r he;have dl:=kg r h.toLot he;have ix:dIx (rD v) (.int ((deal r v).1:Nat)) s=.ok (.int (v.getD (deal r v).1 0)) s:=z88 s dl.lt;have mo:=zfN r (iL (left v (yc v (deal r v)) (deal r v).1)) (by simp[vg Q.len];omega) s;have key:∀d e:D,e=rD v->xj [d,e] s=.ok .non s->xo [d,e] s=.ok (.tup [.int ((deal r v).1:Nat),.lst (iL (yc v (deal r v)))]) s->qP [d,.tup (iL (left v (yc v (deal r v)) (deal r v).1))] s=.ok (.tup (mvd r (iL (left v (yc v (deal r v)) (deal r v).1)))) s-> M_step [d,e] s=.ok (rD (stp r v)) s:=λd e hd h1 h2 h3=>by
  have st:zt ["rule","lot","by","quotients","left"] [d,e]=[some d,some e,none,none,none]:=rfl;have ixe:dIx e (.int ((deal r v).1:Nat)) s=.ok (.int (v.getD (deal r v).1 0)) s:=by rw[hd];exact ix
  simp only[M_step,Mof,zba,st,_g,_i,_G];rw[zq (Z':=[some d,some e,none,none,none]) (s':=s) (by simp[h1])];rw[zq (Z':=[some d,some e,some (.int ((deal r v).1:Nat)),some (.lst (iL (yc v (deal r v)))),none]) (s':=s) (by simp[h2])];have ir:zgR (za (zc 1) (za (zc 3) zk)) [some d,some e,some (.int ((deal r v).1:Nat)),some (.lst (iL (yc v (deal r v)))),none] s=.ok ((v.zip (yc v (deal r v))).map λp=>D.tup [.int p.1,.int p.2],[]) s:=by simp only[zhT,zo,zH,xV,_u,_t,Rb,hd,zd9,z8r,_aD]
  have c:=comp_map (mp:=[some 1,some 2,none,none]) (fg:=kw 2 3) (fe:=eOp ze1 (zc 2) (eOp qJ (zc 3) (eOp dIx (zc 0) (zc 1)))) (λp:Int×Int=>D.tup [.int p.1,.int p.2]) (λp:Int×Int=>D.int (p.1-p.2*v.getD (deal r v).1 0)) (λp=>[some e,some (.int ((deal r v).1:Nat)),some (.int p.1),some (.int p.2)]) _ ir (λp _=>by simp) (λp hp=>by
    have hq:=zjP r h he p.2 (_bJ hp).2;have ab:p.2.natAbs<2 ^ m:=by
     have e1:(p.2.natAbs:Int)=p.2:=_ci hq.1;have:(p.2.natAbs:Int)<((2 ^ m:Nat):Int):=by rw[e1];simpa using hq.2
     omega
    have mu:=zhg (a:=p.2) (b:=v.getD (deal r v).1 0) s ab (by omega) (h.abs _ (Pm.getD_mem dl.lt)) (by omega);simp only[wB,xV,_u,_t,Rb,ixe,mu,zh8]) (by simp[cap];omega);have el:(v.zip (yc v (deal r v))).map (λp:Int×Int=>D.int (p.1-p.2*v.getD (deal r v).1 0))=iL (left v (yc v (deal r v)) (deal r v).1):=by
   unfold left;show _=List.map D.int _;rw[List.zip,List.map_zipWith,List.map_zipWith]
  rw[el]at c;rw[zq (Z':=[some d,some e,some (.int ((deal r v).1:Nat)),some (.lst (iL (yc v (deal r v)))),some (.tup (iL (left v (yc v (deal r v)) (deal r v).1)))]) (s':=s) (by
   rw[z8H,ya,xi,zo,c];simp only[Rb,zH,ziz,_bh,_bg])];simp only[z4J,xg,xi,zo,zH,xV,_u,_t,Rb,h3];rw[zgu];rfl
 exact key _ _ rfl w dv mo
theorem ud{M:Mir}{f:FE}{Z:Ev}{s:Sto}{x:D}(h:f Z s=.ok x s):zi M (za f zk) Z s=M [x] s:=by simp only[xi,zo,zH,h,Rb]
theorem call2{M:Mir}{f g:FE}{Z:Ev}{s:Sto}{x y:D}(h:f Z s=.ok x s)(h2:g Z s=.ok y s):zi M (za f (za g zk)) Z s=M [x,y] s:=by simp only[xi,zo,zH,h,h2,Rb]
theorem z0x{M:Mir}{f g k:FE}{Z:Ev}{s:Sto}{x y z:D}(h:f Z s=.ok x s)(h2:g Z s=.ok y s)(h3:k Z s=.ok z s):zi M (za f (za g (za k zk))) Z s=M [x,y,z] s:=by simp only[xi,zo,zH,h,h2,h3,Rb]
theorem op2{o:D->D->Sto->R D}{f g:FE}{Z:Ev}{s:Sto}{x y:D}(h:f Z s=.ok x s)(h2:g Z s=.ok y s):eOp o f g Z s=o x y s:=by simp only[wB,h,h2,Rb]
theorem zbB{x d:D}{xs:List D}{s:Sto}(h:zW s x=some (xs++[d])):dIx x (.int (-1)) s=.ok d s:=by
 have e:ixN (xs++[d]).length (-1)=some xs.length:=by
  unfold ixN;rw[_j (by omega),_e (by simp;omega)];congr 1;simp;omega
 simp only[dIx,h,atI,e,_A];simp
theorem zbN{i:Int}(h0:0<=i)(h:i<2 ^ 2000):i.natAbs<BIG:=by
 have e:(i.natAbs:Int)=i:=_ci h0;have k:(2:Int) ^ 2000<=(BIG:Int):=by decide +kernel
 exact Int.ofNat_lt.mp (Int.lt_of_lt_of_le (by rw[e];exact h) k)
theorem z2T{a b:Int}(s:Sto)(ha:0<=a)(ha':a<2 ^ 2000)(hb:0<=b)(hb':b<2 ^ 2000):qJ (.int a) (.int b) s=.ok (.int (a*b)) s:=by rw[zdY,_e ⟨zbN ha ha',zbN hb hb'⟩]
theorem zfE{a b:Int}(s:Sto)(hb:0<b)(hb':b<2 ^ 2000):z79 (.int a) (.int b) s=.ok (.int (a / b)) s:=by rw[zb6,_e ⟨hb,zbN (by omega) hb'⟩]
theorem zhC(ns:List Int)(k:Nat)(s:Sto):∃c,yS [.scr (iL ns),.int k] s=.ok (.int c) s:=by
 by_cases h:k<ns.length
 ·have hk:(k:Int)<ns.length:=by omega
  refine⟨ns[k],?_⟩;have e:ixN (iL ns).length (k:Int)=some k:=by
   unfold ixN;rw[_e (by omega),_e (by simpa using hk)];simp
  have ix:dIx (.scr (iL ns)) (.int k) s=.ok (.int ns[k]) s:=by
   simp only[dIx,zW,atI,e,_A];simp[h]
  simp only[iL]at ix;simp[yS,Mof,vH,zt,ub,zW,hk,ix]
 ·have hk:¬ (k:Int)<ns.length:=by omega
  exact⟨0,by simp[yS,Mof,vH,zt,ub,zW,hk]⟩
def Pot(s:Sto)(l:Nat):Prop:=∃p:Int,s[l]? = some [.int p]
theorem Pot.lt{s:Sto}{l:Nat}(h:Pot s l):l<s.length:=by
 obtain⟨p,e⟩:=h;exact (_c.mp e).1
theorem Pot.app{s:Sto}{l:Nat}(h:Pot s l)(t:Sto):Pot (s++t) l:=by
 obtain⟨p,e⟩:=h;exact⟨p,by rw[_o (_c.mp e).1];exact e⟩
structure uh(s s':Sto)(l:Nat):Prop where
 pot:Pot s' l
 len:s'.length=s.length
 oth:∀m,m≠l->s'[m]? = s[m]?
theorem zez{s:Sto}{l:Nat}{far:Int}(h:Pot s l)(h0:0<far)(h1:far<2 ^ 2000):∃r s',zm [.loc l,.int far] s=.ok (.int r) s'/\0<=r/\r<far/\uh s s' l:=by
 obtain⟨p,e⟩:=h;have hl:l<s.length:=(_c.mp e).1;refine⟨p % far,s.set l [.int (p / far)],?_,_aL _ (by omega),_aF _ h0,⟨p / far,by rw[_L hl]⟩,by simp,λm hm=>_B (_aM hm)⟩;have ix:dIx (.loc l) (.int 0) s=.ok (.int p) s:=by simp[dIx,zW,e,atI,ixN]
 simp[zm,Mof,z0W,zt,ix,z87 s h0,zfE s h0 h1,e,ixN,z1v,List.replicate]
theorem zhM(s:Sto):z30 (.int 10) (.int 18) s=.ok (.int 1000000000000000000) s:=by rw[zbm];rfl
theorem zjH(s:Sto):z30 (.int 10) (.int 15) s=.ok (.int 1000000000000000) s:=by rw[zbm];rfl
theorem zgr(s:Sto):z30 (.int 10) (.int 39) s=.ok (.int 1000000000000000000000000000000000000000) s:=by rw[zbm];rfl
theorem pow_step{m r j:Nat}(h:m<2147483648 ^ j)(hr:r<2147483587):m*2147483587+r<2147483648 ^ (j+1):=by
 rw[_dp];generalize 2147483648 ^ j=B at h;omega
theorem ziI{m j:Nat}(h:m<2147483648 ^ j)(hj:j<=64):(m:Int)<2 ^ 2000:=by
 have h1:2147483648 ^ j<=2147483648 ^ 64:=_ar (by decide) hj;have h2:2147483648 ^ 64<=2 ^ 2000:=by decide +kernel
 have h3:m<2 ^ 2000:=_p h (_S h1 h2);have h4:((2 ^ 2000:Nat):Int)=2 ^ 2000:=by decide +kernel
 rw[<- h4];exact Int.ofNat_lt.mpr h3
theorem zkz (c:Int) (s:Sto):∃p:Int,vn [.int c] s=.ok (.loc s.length) (s++[[.int p]]):=by
 by_cases h:1000000000000000000<=c;·exact⟨c-1000000000000000000,by simp[vn,Mof,kq,zt,zhM,h,D.flat.flats,z1v,cap,List.replicate]⟩
 ·have lp:∃Z' s',z0R [some (.int c),some (.int 0),none,none] s=.ok (.nx Z') s'/\∃(m:Nat) (a b:Option D),Z'=[some (.int c),some (.int m),a,b]/\s'=s:=by
   obtain⟨Z',s',e,m,a,b,e1,e2,_⟩:=jE (all:=vb 64) (body:=λd Z s=>(kb 2 d Z s).bind λZ' s'=>(zF z0S (zF z0L z0V)) Z' s') (λj Z s'=>∃(m:Nat) (a b:Option D),Z=[some (.int c),some (.int m),a,b]/\s'=s/\m<2147483648 ^ j) (vb 64) 0 (λj x hx Z s' hi=>by
    obtain⟨m,a,b,rfl,rfl,hm⟩:=hi;obtain⟨hj,rfl⟩:=z6r hx;rw[_E]at hm;have r0:=_aL c (show (2147483629:Int)≠0 by decide);have r1:=_aF c (show (0:Int)<2147483629 by decide);have a1:zb2 (.int c) (.int 2147483629) s'=.ok (.int (c % 2147483629)) s':=z87 s' (by decide);have a2:qJ (.int 7919) (.int j) s'=.ok (.int (7919*j)) s':=z2T s' (by decide) (by decide +kernel) (by omega) (by omega);have a3:qJ (.int (c % 2147483629+7919*j+1)) (.int 48271) s'=.ok (.int ((c % 2147483629+7919*j+1)*48271)) s':=z2T s' (by omega) (by omega) (by decide) (by decide +kernel);generalize hx1:(c % 2147483629+7919*(j:Int)+1)*48271 % 2147483647=x1;have b0:0<=x1:=by rw[<- hx1];exact _aL _ (by decide)
    have b1:x1<2147483647:=by rw[<- hx1];exact _aF _ (by decide)
    have a4:zb2 (.int ((c % 2147483629+7919*j+1)*48271)) (.int 2147483647) s'=.ok (.int x1) s':=by rw[<- hx1];exact z87 s' (by decide)
    have a5:qJ (.int x1) (.int x1) s'=.ok (.int (x1*x1)) s':=z2T s' b0 (by omega) b0 (by omega);have a6:qJ (.int 69621) (.int j) s'=.ok (.int (69621*j)) s':=z2T s' (by decide) (by decide +kernel) (by omega) (by omega);generalize hx2:(x1*x1+69621*(j:Int)+7) % 2147483587=x2;have c0:0<=x2:=by rw[<- hx2];exact _aL _ (by decide)
    have c1:x2<2147483587:=by rw[<- hx2];exact _aF _ (by decide)
    have a7:zb2 (.int (x1*x1+69621*j+7)) (.int 2147483587) s'=.ok (.int x2) s':=by rw[<- hx2];exact z87 s' (by decide)
    have a8:qJ (.int m) (.int 2147483587) s'=.ok (.int (m*2147483587)) s':=z2T s' (by omega) (ziI hm (by omega)) (by decide) (by decide +kernel);obtain⟨y,rfl⟩:=_bS c0;refine⟨[some (.int c),some (.int ((m*2147483587+y:Nat):Int)),some (.int j),some (.int y)],s',?_,m*2147483587+y,_,_,rfl,rfl,?_⟩;·simp[a1,a2,a3,a4,a5,a6,a7,a8]
    ·rw[_E];exact pow_step hm (by omega)) [some (.int c),some (.int 0),none,none] s ⟨0,none,none,rfl,rfl,by decide⟩;exact⟨Z',s',by simpa using e,m,a,b,e1,e2⟩
  obtain⟨Z',s',e,m,a,b,rfl,rfl⟩:=lp;refine⟨m,?_⟩;have st:zt ["_law_cell","_law_number","_law_j","_law_more"] [.int c]=[some (.int c),none,none,none]:=rfl;simp only[vn,Mof,kq,st,_g,_i,_G];rw[zq (Z':=[some (.int c),none,none,none]) (s':=s') (by simp[zhM,h])];rw[zq (Z':=[some (.int c),some (.int 0),none,none]) (s':=s') (by simp)];rw[zq e];simp[D.flat.flats,z1v,cap]
structure LS(s0:Sto)(l:Nat)(s:Sto)(xs:List Int):Prop where
 pot:Pot s l
 len:s.length=s0.length+1
 at_:s[s0.length]? = some (iL xs)
 oth:∀m,m≠l->m<s0.length->s[m]? = s0[m]?
theorem LS.drawn{s0 s s':Sto}{l:Nat}{xs:List Int}(h:LS s0 l s xs)(hl:l<s0.length)(d:uh s s' l):LS s0 l s' xs:= ⟨d.pot,by rw[d.len,h.len],by rw[d.oth _ (by omega)];exact h.at_,λm h1 h2=>by rw[d.oth m h1];exact h.oth m h1 h2⟩
theorem LS.set{s0 s:Sto}{l:Nat}{xs:List Int}(h:LS s0 l s xs)(hl:l<s0.length)(ys:List Int):LS s0 l (s.set s0.length (iL ys)) ys:=by
 refine⟨?_,by simp[h.len],_L (by rw[h.len];omega),λm h1 h2=>?_⟩
 ·obtain⟨p,e⟩:=h.pot;exact⟨p,by rw[_B (by omega)];exact e⟩
 ·rw[_B (by omega)];exact h.oth m h1 h2
theorem LS.fin{s0 s:Sto}{l:Nat}{xs:List Int}(h:LS s0 l s xs)(hl:l<s0.length):uh s0 (s.take s0.length) l:=by
 obtain⟨p,e⟩:=h.pot;refine⟨⟨p,by rw[_aO hl];exact e⟩,by simp[h.len],λm h1=>?_⟩;by_cases h2:m<s0.length;·rw[_aO h2];exact h.oth m h1 h2
 ·rw[_az (by simp[h.len];omega),_az (by omega)]
theorem LS.start{s0 s:Sto}{l:Nat}(d:uh s0 s l)(h:Pot s0 l)(xs:List Int):LS s0 l (s++[iL xs]) xs:= ⟨d.pot.app _,by simp[d.len],by rw[<- d.len];simp,λm h1 h2=>by rw[_o (by rw[d.len];exact h2)];exact d.oth m h1⟩
theorem uh.trans{s s1 s2:Sto}{l:Nat}(a:uh s s1 l)(b:uh s1 s2 l):uh s s2 l:=⟨b.pot,by rw[b.len,a.len],λm h=>by rw[b.oth m h,a.oth m h]⟩
theorem jg{s:Sto}{l:Nat}{far:Int}{f g:FE}{Z:Ev}(h:Pot s l)(h0:0<far)(h1:far<2 ^ 2000)(hf:f Z s=.ok (.loc l) s)(hg:g Z s=.ok (.int far) s):∃r s',zi zm (za f (za g zk)) Z s=.ok (.int r) s'/\0<=r/\r<far/\uh s s' l:=by
 obtain⟨r,s',e,a,b,c⟩:=zez h h0 h1;exact⟨r,s',by rw[call2 hf hg,e],a,b,c⟩
theorem z5O{xs:List D}{i:Int}{d:D}{s:Sto}(h0:0<=i)(h:xs[i.toNat]? = some d):dIx (.lst xs) (.int i) s=.ok d s:=by
 have hj:i.toNat<xs.length:=(_c.mp h).1;have e:ixN xs.length i=some i.toNat:=by
  unfold ixN;rw[_e h0,_e (by omega)]
 simp only[dIx,zW,atI,e,_A,h]
theorem zho{xs:List D}{l:Nat}{i:Int}{d:D}{s:Sto}(hl:s[l]? = some xs)(h0:0<=i)(h:xs[i.toNat]? = some d):dIx (.loc l) (.int i) s=.ok d s:=by
 have hj:i.toNat<xs.length:=(_c.mp h).1;have e:ixN xs.length i=some i.toNat:=by
  unfold ixN;rw[_e h0,_e (by omega)]
 simp only[dIx,zW,hl,atI,e,_A,h]
theorem z6R{fa fb fc:FE}{Z:Ev}{s s1 s2:Sto}{L:Nat}{xs:List Int}{i x:Int}(hc:fc Z s=.ok (.int x) s1)(ha:fa Z s1=.ok (.loc L) s1)(hb:fb Z s1=.ok (.int i) s2)(at_:s2[L]? = some (iL xs))(h0:0<=i)(h1:i<xs.length):z69 fa fb fc Z s=.ok (.nx Z) (s2.set L (iL (xs.set i.toNat x))):=by
 have e:ixN (iL xs).length i=some i.toNat:=by
  unfold ixN;rw[_e h0,_e (by simp;omega)]
 rw[zgh,hc,Rb,ha,Rb,hb,Rb];simp only[at_,e,z1v,_G,iL,List.map_set]
theorem zbZ{xs:List Int}{i:Nat}{x B:Int}(h:∀y∈xs,0<=y/\y<=B)(hx:0<=x/\x<=B):∀y∈xs.set i x,0<=y/\y<=B:=λy hy=>by
 rcases List.mem_or_eq_of_mem_set hy with h2 | h2;·exact h y h2
 ·rw[h2];exact hx
theorem z3q{x:Int}(h:x<=1000):x<2 ^ 2000:=Int.lt_of_le_of_lt h (by decide +kernel)
theorem zd5{v:List Int}{n:Nat}{s:Sto}:z8P n (.ok (rD v) s)=.ok (rD v) (s.take n):=z0s (uW v)
theorem zfJ{ns:List Int}{L:Nat}{s:Sto}{f:FE}{Z:Ev}(h:ns≠[])(e:s[L]? = some (iL ns))(hf:f Z s=.ok (.loc L) s):tOf (eOp dEq (zi wl (za f zk)) (eC (.int 0))) Z s=.ok (decide (maxL ns=0)) s:=by
 rw[z7B,wB,ud hf,zcY h e];simp
theorem z9C{ns:List Int}(h:ns≠[])(hn:∀y∈ns,0<=y)(hm:maxL ns≠0):∃x∈ns,0<x:=⟨maxL ns,maxL_mem h,by have:=hn _ (maxL_mem h);omega⟩
noncomputable def okD:Nat->D->Bool
 | _,.non=>true | _,.bl _=>true | _,.int _=>true | _,.str x=>PyData.strOk x | k+1,.tup xs=>xs.all (okD k) | k+1,.lst xs=>xs.all (okD k) | _,_=>false
theorem zkp{k:Nat}:∀(xs:List D),(∀x∈xs,PyData.canLay0 (xK x)=true/\PyData.depth (xK x)<=2*k+3/\PyData.eqv (xK x) (xK x)=true)->PyData.canLayAll0 (toPys xs)=true/\PyData.depthAll (toPys xs)<=2*k+4/\PyData.eqvAll (toPys xs) (toPys xs)=true
 | [],_=>⟨rfl,by simp[toPys,PyData.depthAll],by simp[toPys,PyData.eqvAll]⟩ | x::xs,h=>by
  have h1:=h x (by simp);have h2:=zkp xs λy hy=>h y (by simp[hy]);refine⟨by simp[toPys,PyData.canLayAll0,h1.1,h2.1],?_,by simp[toPys,PyData.eqvAll,h1.2.2,h2.2.2]⟩;simp only[toPys,PyData.depthAll];omega
theorem zix:∀(k:Nat)(d:D),okD k d=true->PyData.canLay0 (xK d)=true/\PyData.depth (xK d)<=2*k+3/\PyData.eqv (xK d) (xK d)=true:=by
 intro k;induction k with
 | zero=>
  intro d h;cases d with
  | str x=>simp only[okD]at h;simp[xK,PyData.canLay0,PyData.depth,PyData.eqv,h] | non=>simp[xK,PyData.canLay0,PyData.depth,PyData.eqv] | bl b=>simp[xK,PyData.canLay0,PyData.depth,PyData.eqv] | int i=>simp[xK,PyData.canLay0,PyData.depth,PyData.eqv] | _=>simp[okD]at h
 | succ k ih=>
  intro d h;cases d with
  | str x=>simp only[okD]at h;simp[xK,PyData.canLay0,PyData.depth,PyData.eqv,h] | non=>simp[xK,PyData.canLay0,PyData.depth,PyData.eqv] | bl b=>simp[xK,PyData.canLay0,PyData.depth,PyData.eqv] | int i=>simp[xK,PyData.canLay0,PyData.depth,PyData.eqv] | tup xs=>
   simp only[okD,_Y]at h;have q:=zkp (k:=k) xs λx hx=>ih x (h x hx);refine⟨by simp only[xK,PyData.canLay0,q.1],?_,by simp only[xK,PyData.eqv,q.2.2]⟩;simp only[xK,PyData.depth];omega | lst xs=>
   simp only[okD,_Y]at h;have q:=zkp (k:=k) xs λx hx=>ih x (h x hx);refine⟨by simp only[xK,PyData.canLay0,q.1],?_,by simp only[xK,PyData.eqv,q.2.2]⟩;simp only[xK,PyData.depth];omega | _=>simp[okD]at h
theorem zdU{k:Nat}{d:D}(h:okD k d=true)(hk:k<=10):zdm d=true:=by
 have q:=zix k d h;simp only[zdm,SeqAt.shaped,q.1];simp;omega
theorem zfg(k:Nat)(ns:List Int):(iL ns).all (okD k)=true:=by
 rw[_Y];intro x hx;obtain⟨n,_,rfl⟩:=_J.mp hx;cases k<;>rfl
theorem zeu(k:Nat)(ns:List Int):okD (k+1) (rD ns)=true:=zfg k ns
end Pg
namespace Pn
open L2 Dd Pm Pg
def isI:D->Bool
 | .int _=>true | _=>false
def okI:D->Bool
 | .int i=>decide (0<=i) | _=>false
theorem qC{d:D}(h:(tyD d).isSome=true)(s:Sto):zY [d] s=.ok (.bl (isI d)) s:=by cases d<;>simp[tyD]at h<;>simp[zY,Mof,ki,zt,gIs,tyD,isT,isI]
theorem z5Y{d:D}(h:(tyD d).isSome=true)(s:Sto):jm [d] s=.ok (.bl (isI d)) s:=by cases d<;>simp[tyD]at h<;>simp[jm,Mof,kW,zt,gIs,tyD,isT,isI]
def Kd:D->Prop
 | .tup xs=>∀x∈xs,(tyD x).isSome=true | .scr _=>False | d=>(tyD d).isSome=true
theorem Kd.ty{d:D}(h:Kd d):(tyD d).isSome=true:=by cases d<;>first | rfl | exact h | exact (show False from h).elim
theorem all_ints:∀{xs:List D},xs.all isI=true->∃v:List Int,xs=iL v
 | [],_=>⟨[],rfl⟩ | x::xs,h=>by
  rw[_ce,_z]at h;obtain⟨v,rfl⟩:=all_ints h.2;cases x with
  | int i=>exact⟨i::v,rfl⟩ | _=>simp[isI]at h
theorem zan:∀{v w:List Int},iL v=iL w->v=w
 | [],[],_=>rfl | [],_::_,h=>by simp at h | _::_,[],h=>by simp at h | a::v,b::w,h=>by
  simp only[iL,_v,_aK,D.int.injEq]at h;rw[h.1,zan (v:=v) (w:=w) h.2]
theorem zc0(v:List Int):(iL v).all okI=v.all λx=>decide (0<=x):=by
 simp only[iL,List.all_map];rfl
theorem zcJ{α:Type}(l:List α)(p:α->Bool)(s:Sto):zfw [.lst (l.map λx=>D.bl (p x))] s=.ok (.bl (l.all p)) s:=by
 have b:bools (l.map λx=>D.bl (p x))=some (l.map p):=by
  rw[show (l.map λx=>D.bl (p x))=(l.map p).map D.bl by rw[_bj];rfl];exact z1O _
 simp[zfw,zW,b]
theorem z4E {xs:List D} (hk:∀x∈xs,(tyD x).isSome=true) (s:Sto) (h:xs.length<=1000):yg [.tup xs,.int xs.length] s=.ok (.bl (xs.all isI)) s:=by
 have st:zt ["thing","many"] [.tup xs,.int xs.length]=[some (.tup xs),some (.int xs.length)]:=rfl;simp only[yg,Mof,qf,st,_g,_i,_G];rw[zq (Z':=[some (.tup xs),some (.int xs.length)]) (s':=s) (by simp[gIs,tyD,isT,ub,zW])];have c:=comp_map (fi:=vx (zc 0)) (mp:=[none]) (fg:=kb 0) (fe:=zi zY (za (zc 0) zk)) (Z:=[some (.tup xs),some (.int xs.length)]) (s:=s) (λx=>x) (λx=>D.bl (isI x)) (λx=>[some x]) xs (by simp) (λa _=>by simp) (λa ha=>by simp[qC (hk a ha)]) (by simp[cap];omega);simp only[jX,xg,xi,zo,zH,c,Rb,zcJ]
theorem z0J{t:Option D}(s:Sto):∀(xs all:List D)(z:Option D),(∀x∈xs,(tyD x).isSome=true)-> if xs.all okI=true then ∃z',vk [] all (λd Z s=>(kb 1 d Z s).bind λZ' s'=>xk Z' s') xs [t,z] s=.ok (.nx [t,z']) s else vk [] all (λd Z s=>(kb 1 d Z s).bind λZ' s'=>xk Z' s') xs [t,z] s=.ok (.rt (.bl false)) s
 | [],all,z,_=>by simp[vk,okG] | x::xs,all,z,hk=>by
  have hx:=hk x (by simp);have ih:=z0J (t:=t) s xs all (some x) λy hy=>hk y (by simp[hy]);have og:okG [] all s:=by intro p hp;simp at hp
  have step:xk [t,some x] s=if okI x=true then .ok (.nx [t,some x]) s else .ok (.rt (.bl false)) s:=by
   have w:=z5Y hx s;cases x with
   | int i=>
    by_cases h0:0<=i
    ·have:¬ i<0:=by omega
     simp[w,isI,okI,h0,this]
    ·have:i<0:=by omega
     simp[w,isI,okI,h0,this] | _=>simp[w,isI,okI]
  simp only[vk,_e og,zew,Rb,_bh,_bg,step];cases h:okI x with
  | true=>
   simp only[_G,Rb,_ce,h,_cX];exact ih | false=>simp[h]
theorem zfz{xs:List D}(h:xs.all okI=true):xs.all isI=true:=by
 rw[_Y]at h ⊢;intro x hx;have:=h x hx;cases x<;>simp_all[okI,isI]
theorem zcA{d:D}(hd:Kd d)(s:Sto):(∃n v,d=rD v/\Lot n v/\zS [d] s=.ok (.bl true) s/\yI [d] s=.ok (.bl true) s)\/(zS [d] s=.ok (.bl false) s/\yI [d] s=.ok (.bl false) s):=by cases d with
  | tup xs=>
    have hk:∀x∈xs,(tyD x).isSome=true:=hd;by_cases hs:2<=xs.length/\xs.length<=4
    · have h1:=z3R xs s hs;have h2:=z4E hk s (by omega);have gl:ub [.tup xs] s=.ok (.int xs.length) s:=by simp[ub,zW]
      have lf:jj [some (.tup xs),none] s=.ok (.nx [some (.tup xs),none]) s:=by
        have:za2 true (.int (xs.length:Int)) (.tup [.int 2,.int 3,.int 4]) s=.ok (.bl false) s:=by
          have hc:xs.length=2\/xs.length=3\/xs.length=4:=by omega
          rcases hc with hc | hc | hc<;>rw[hc]<;>rfl
        simp[gIs,tyD,isT,gl,this,cap]
      have lp:=z0J (t:=some (.tup xs)) s xs xs none hk;have st:zt ["_law_thing","_law_number"] [.tup xs]=[some (.tup xs),none]:=rfl;have lw:yI [.tup xs] s=(match zF xb xX [some (.tup xs),none] s with | .ok (.rt d) s'=>.ok d s' | .ok (.nx _) s'=>.ok .non s' | _=>.no):=by
        simp only[yI,Mof,wC,st,_g,_i,_G];rw[zq lf]<;>(generalize zF xb xX [some (.tup xs),none] s=r;cases r with
          | ok fl _=>cases fl<;>rfl | _=>rfl)
      have q3:xb [some (.tup xs),none] s=vk [] xs (λd Z s=>(kb 1 d Z s).bind λZ' s'=>xk Z' s') xs [some (.tup xs),none] s:=by
        rw[xb,z1b];simp only[zfb,xV,_u,Rb]
      have pg:∀b,(∀v:List Int,xs=iL v->(decide (0<=minL v)&&decide (0<maxL v))=b)->(xs.all isI=false->b=false)->zS [.tup xs] s=.ok (.bl b) s:=λb hb hb2=>by cases hi:xs.all isI with
        | false=>
          rw[hi]at h2;rw[hb2 hi];have key:∀d:D,ym [d] s=.ok (.bl true) s->ub [d] s=.ok (.int xs.length) s->yg [d,.int xs.length] s=.ok (.bl false) s->zS [d] s=.ok (.bl false) s:=λd a1 a2 a3=>by simp[zS,Mof,vB,zt,a1,a2,a3]
          exact key _ h1 gl h2 | true=>
          rw[hi]at h2;obtain⟨v,rfl⟩:=all_ints hi;have ne:v≠[]:=by rintro rfl;simp at hs
          have g1:=z0T s ne;have g2:=zed s ne;have hb:=hb v rfl;have key:∀d:D,ym [d] s=.ok (.bl true) s->ub [d] s=.ok (.int (iL v).length) s->yg [d,.int (iL v).length] s=.ok (.bl true) s->wl [d] s=.ok (.int (maxL v)) s->z34 [d] s=.ok (.int (minL v)) s->zS [d] s=.ok (.bl b) s:=λd a1 a2 a3 a4 a5=>by
            rw[<- hb];by_cases z:0<=minL v;· simp[zS,Mof,vB,zt,a1,a2,a3,a4,a5,z,-List.length_map]
            · simp[zS,Mof,vB,zt,a1,a2,a3,a4,a5,z,-List.length_map]
          exact key _ h1 gl h2 g1 g2
      cases ho:xs.all okI with
      | false=>
        right;rw[ho,_j (by decide)]at lp;refine⟨pg false (λv hv=>?_) (λ_=>rfl),?_⟩
        · subst hv;rw[zc0]at ho;rw[Bool.and_eq_false_iff];left;rw[decide_eq_false_iff_not];intro z;have ne:v≠[]:=by rintro rfl;simp at hs
          have:v.all (λx=>decide (0<=x))=true:=by
            rw[_Y];intro x hx;have:=minL_le (xs:=v) x hx;exact _aq (by omega)
          rw[this]at ho;cases ho
        · rw[lw,z3T (by rw[q3];exact lp)] | true=>
        rw[ho,_e rfl]at lp;obtain⟨z',lp⟩:=lp;obtain⟨v,rfl⟩:=all_ints (zfz ho);have ne:v≠[]:=by rintro rfl;simp at hs
        rw[zc0,_Y]at ho;have nn:∀x∈v,0<=x:=λx hx=>of_decide_eq_true (ho x hx);have mn:0<=minL v:=nn _ (minL_mem ne);have g1:=z0T s ne;have lw2:yI [.tup (iL v)] s=.ok (.bl (decide (0<maxL v))) s:=by
          rw[lw,zq (by rw[q3];exact lp)];have key:∀d:D,wl [d] s=.ok (.int (maxL v)) s->xX [some d,z'] s=.ok (.rt (.bl (decide (0<maxL v)))) s:=λd a=>by simp[a]
          rw[key _ g1]
        by_cases mx:0<maxL v
        · left;have hv:Lot v.length v:=by refine⟨?_,?_,nn,⟨maxL v,maxL_mem ne,mx⟩⟩<;>first | rfl | (simp at hs;omega) | skip
          refine⟨v.length,v,rfl,hv,z8p hv s,?_⟩;rw[lw2,_aq mx]
        · right;refine⟨pg false (λw hw=>?_) (λ_=>rfl),?_⟩
          · have:v=w:=zan hw;subst this;rw[_X mx,Bool.and_false]
          · rw[lw2,_X mx]
    · right;have e:(decide ((2:Int)<=xs.length)&&decide ((xs.length:Int)<=4))=false:=by
        by_cases a:(2:Int)<=xs.length
        · have:¬ (xs.length:Int)<=4:=by omega
          simp[a,this]
        · simp[a]
      constructor
      · have h1:ym [.tup xs] s=.ok (.bl false) s:=by
          by_cases a:(2:Int)<=xs.length
          · have:¬ (xs.length:Int)<=4:=by omega
            simp[ym,Mof,vM,zt,gIs,tyD,isT,ub,zW,a,this]
          · simp[ym,Mof,vM,zt,gIs,tyD,isT,ub,zW,a]
        have key:∀d:D,ym [d] s=.ok (.bl false) s->zS [d] s=.ok (.bl false) s:=λd a1=>by simp[zS,Mof,vB,zt,a1]
        exact key _ h1
      · have gl:ub [.tup xs] s=.ok (.int xs.length) s:=by simp[ub,zW]
        have q:za2 true (.int (xs.length:Int)) (.tup [.int 2,.int 3,.int 4]) s=.ok (.bl true) s:=by
          have h2:xs.length≠2:=by omega
          have h3:xs.length≠3:=by omega
          have h4:xs.length≠4:=by omega
          generalize xs.length=m at h2 h3 h4;have g2:¬ (2:Int)=m:=by omega
          have g3:¬ (3:Int)=m:=by omega
          have g4:¬ (4:Int)=m:=by omega
          have e:inV (.int (m:Int)) [.int 2,.int 3,.int 4]=false:=by simp[inV,eqV,g2,g3,g4]
          simp[za2,z28,zW,je,e]
        simp[yI,Mof,wC,zt,gIs,tyD,isT,gl,q,cap] | scr _=>exact hd.elim | _=>
    right;have hd:=hd.ty;first
    | (exfalso;simp[tyD]at hd;done)
    | (constructor;· simp[zS,Mof,vB,ym,vM,zt,gIs,tyD,isT]
       · simp[yI,Mof,wC,zt,gIs,tyD,isT])
theorem z2y:LeM yA xC:=LeM.mof (LeS.if_ LeS.fNo LeS.rfl)
theorem z0Q:LeM yo wz:=LeM.mof (LeS.seq (LeS.drop (LeE.call z2y)) LeS.calm)
theorem z4W{d:D}{s:Sto}(h:zS [d] s=.ok (.bl false) s):xC [d] s=.ex "NoLot" s:=by
 have st:zt ["thing"] [d]=[some d]:=rfl;simp[xC,jB,z0K,st,h]
theorem z2q{f g:FS}{Z:Ev}{s s':Sto}{c:Str}(h:f Z s=.ex c s'):zF f g Z s=.ex c s':=by rw[zha,h,R.bind_ex]
theorem kr{f:FE}{Z:Ev}{s s':Sto}{c:Str}(h:f Z s=.ex c s'):wy f Z s=.ex c s':=by rw[xB,h,R.bind_ex]
end Pn
namespace Pm
end Pm
namespace Pg
open L2 Dd Pm
theorem vr{i:Nat}{Z:Ev}{s:Sto}{d:D}(h:Z[i]? = some (some d)):zc i Z s=.ok d s:=by rw[xV,h]
theorem zd4{f g:FS}{t:FT}{Z:Ev}{s:Sto}(h:t Z s=.ok false s):fIf t f g Z s=g Z s:=by rw[z3d,h,Rb,_j (by decide)]
theorem zgt{t u:FT}{Z:Ev}{s:Sto}(h:t Z s=.ok false s)(h2:u Z s=.ok false s):fOr t u Z s=.ok false s:=by rw[zku,h,Rb,_j (by decide),h2]
theorem vN{f:FE}{Z:Ev}{s:Sto}{b:Bool}(h:f Z s=.ok (.bl b) s):tOf f Z s=.ok b s:=by rw[z7B,h];rfl
theorem zg7{t:FT}{Z:Ev}{s:Sto}(h:t Z s=.ok true s):z2E t Z s=.ok false s:=by rw[zc6,h];rfl
end Pg
namespace Pm
end Pm
namespace Pg
open L2 Dd Pm
end Pg
namespace Pm
end Pm
namespace Pg
open L2 Dd Pm
theorem z6P{ar:FA}{Z:Ev}{s s1:Sto}{n:Nat}(hn:n<=1000)(h:ar Z s=.ok [.int n] s1):z6T ar Z s=.ok ((List.range n).map λk:Nat=>D.int ((k:Nat):Int),[]) s1:=by
 rw[zeo,h,Dd.R.bind_ok];simp only;rw[_e ⟨by omega,by omega⟩];simp[vb]
end Pg
namespace Pn
open L2 Dd Pm Pg
theorem zeP{s:Sto}{x y:List D}:(s++[x]).set s.length y=s++[y]:=by simp
end Pn
namespace Pm
open L2 (maxL minL maxL_ge maxL_mem minL_le minL_mem)
abbrev enP(v:List Int):List (Int×Nat):=v.zipIdx
end Pm
namespace Pg
open L2 Dd Pm
theorem z7Y{α:Type}{all:List D}{body:D->Sto->R (Option D)}(g:α->D)(P:Nat->Sto->Prop)(Q:D->Prop):∀(l:List α)(j:Nat)(acc:List D)(s:Sto),(∀i a,l[i]? = some a->∀s,P (j+i) s->∃y s',body (g a) s=.ok (some y) s'/\Q y/\P (j+i+1) s')->acc.length+l.length<=cap->P j s->(∀y∈acc,Q y)->∃ys s',uc [] all body (l.map g) acc s=.ok ys s'/\ys.length=acc.length+l.length/\(∀y∈ys,Q y)/\P (j+l.length) s'
 | [],j,acc,s,_,_,hP,hQ=>⟨acc,s,by simp[uc,okG],by simp,hQ,hP⟩ | x::xs,j,acc,s,hb,hl,hP,hQ=>by
  obtain⟨y,s1,e,hy,hP1⟩:=hb 0 x (by simp) s hP;obtain⟨ys,s2,e2,h1,h2,h3⟩:=z7Y (all:=all) g P Q xs (j+1) (acc++[y]) s1 (λi a ha s h=>by
   have:=hb (i+1) a (by simpa using ha) s (by rw[show j+(i+1)=j+1+i by omega];exact h);rw[show j+(i+1)+1=j+1+i+1 by omega]at this;exact this) (by simp at hl ⊢;omega) hP1 (by
   intro z hz;rcases _H.mp hz with hz | hz;·exact hQ z hz
   ·simp at hz;rw[hz];exact hy);refine⟨ys,s2,?_,by simp at h1 ⊢;omega,h2,by rw[_g,show j+(xs.length+1)=j+1+xs.length by omega];exact h3⟩;rw[_v,uc,_e (by intro p hp;simp at hp),e];have hc:acc.length<cap:=by simp at hl;omega
  simp[hc,e2]
theorem zdr {α:Type} {fi:FI} {mp:List (Option Nat)} {fg:FG} {fe:FE} {Z:Ev} {s s0:Sto} (g:α->D) (ev:α->Ev) (P:Nat->Sto->Prop) (Q:D->Prop) (l:List α) (hi:fi Z s=.ok (l.map g,[]) s0) (hg:∀a∈l,∀s,fg (g a) (yh mp Z) s=.ok (ev a) s) (he:∀i a,l[i]? = some a->∀s,P i s->∃y s',fe (ev a) s=.ok y s'/\Q y/\P (i+1) s') (hl:l.length<=cap) (hP:P 0 s0): ∃ys s',z5n fi mp fg z1p fe Z s=.ok ys s'/\ys.length=l.length/\(∀y∈ys,Q y)/\P l.length s':=by
 obtain⟨ys,s',e,h1,h2,h3⟩:=z7Y (all:=l.map g) (body:=λd s=>(fg d (yh mp Z) s).bind λZ' s1=>(z1p Z' s1).bind λt s2=>if t=true then (fe Z' s2).bind λy s3=>.ok (some y) s3 else .ok none s2) g P Q l 0 [] s0 (λi a ha s hP=>by
  rw[_E]at hP ⊢;obtain⟨y,s',e,hq,hp⟩:=he i a ha s hP;exact⟨y,s',by simp[hg a (_C ha) s,e],hq,hp⟩) (by simpa using hl) hP (by simp);refine⟨ys,s',?_,by simpa using h1,h2,by simpa using h3⟩;rw[z7z,hi,Dd.R.bind_ok];exact e
theorem zcl{α:Type}{fi:FI}{mp:List (Option Nat)}{fg:FG}{fe:FE}{Z:Ev}{s s0:Sto}(g:α->D)(ev:α->Ev)(P:Nat->Sto->Prop)(Q:D->Prop)(l:List α) (hi:fi Z s=.ok (l.map g,[]) s0)(hg:∀a∈l,∀s,fg (g a) (yh mp Z) s=.ok (ev a) s)(he:∀i a,l[i]? = some a->∀s,P i s->∃y s',fe (ev a) s=.ok y s'/\Q y/\P (i+1) s')(hl:l.length<=cap)(hP:P 0 s0)(hf:∀y,Q y->y.flat=true): ∃ys s',z3K fi mp fg z1p fe Z s=.ok (.loc s'.length) (s'++[ys])/\ys.length=l.length/\(∀y∈ys,Q y)/\P l.length s':=by
 obtain⟨ys,s',e,h1,h2,h3⟩:=zdr g ev P Q l hi hg he hl hP;have fl:∀zs:List D,(∀y∈zs,Q y)->D.flat.flats zs=true:=λzs=>by induction zs with
  | nil=>intro _;rfl | cons z zs ih=>intro hz;simp only[D.flat.flats,_z];exact⟨hf z (hz z (by simp)),ih λy hy=>hz y (by simp[hy])⟩
 exact⟨ys,s',by rw[zcf,e,Dd.R.bind_ok,_e (fl ys h2)],h1,h2,h3⟩
end Pg
namespace Po
open L2 Dd Pm Pg Pn
theorem z5B:∀(v:List Int)(k:Nat),z31 k (iL v)=(v.zipIdx k).map λp=>D.tup [.int ((p.2:Nat):Int),.int p.1]
 | [],k=>rfl | x::v,k=>by simp[z31,z5B v (k+1)]
theorem zcs{v:List Int}{f:FE}{Z:Ev}{s:Sto}(hf:f Z s=.ok (rD v) s):za4 (za f zk) Z s=.ok ((enP v).map λp=>D.tup [.int ((p.2:Nat):Int),.int p.1],[]) s:=by simp only[za4,zo,hf,Rb,zH,zd9,z5B]
theorem zaX{f g:FS}{t:FT}{Z:Ev}{s:Sto}(h:t Z s=.ok true s):fIf t f g Z s=f Z s:=by rw[z3d,h,Rb,_e rfl]
section
end
end Po
namespace Pr
open L2 Dd Pm Pg Pn Po
theorem zky(r:Rl)(s:Sto):dEq (.str (nmR r)) (.str "all") s=.ok (.bl (decide (r=.al))) s:=by
 rw[Pg.eq_str (zes r) (by decide +kernel)];congr 2;cases r<;>decide +kernel
end Pr
namespace Pn
open L2 Dd Pm Pg
theorem _root_.Dd.LeS.ifT{t t':FT}{f f' g g':FS}(h0:∀Z s b s',t Z s=.ok b s'->t' Z s=.ok b s')(h:LeS f f')(h2:LeS g g'):LeS (fIf t f g) (fIf t' f' g'):=λZ s a s' e=>by
 rw[z3d]at e ⊢;cases q:t Z s with
 | ok b s1=>
  rw[q,Rb]at e;rw[h0 Z s b s1 q,Rb];cases b;·exact h2 Z s1 a s' e
  ·exact h Z s1 a s' e | ex c s1=>rw[q]at e;cases e | no=>rw[q]at e;cases e
theorem zhw{f g:FE}(h:LeE f g):∀Z s b s',tOf f Z s=.ok b s'->tOf g Z s=.ok b s':=λZ s b s' e=>by
 rw[z7B]at e ⊢;cases q:f Z s with
 | ok d s1=>rw[q]at e;rw[h Z s d s1 q];exact e | ex c s1=>rw[q]at e;cases e | no=>rw[q]at e;cases e
theorem wL:LeM yH yd:=LeM.mof (LeS.if_ LeS.fNo LeS.rfl)
theorem z0h:LeM zI zr:=LeM.mof (LeS.seq (LeS.drop (LeE.call wL)) (LeS.drop (LeE.call z2y)))
theorem z5U:LeM xj qB:=LeM.mof (LeS.seq (LeS.drop (LeE.call z0h)) (LeS.ifT (zhw (LeE.call z0Q)) LeS.fNo LeS.rfl))
theorem le_step:LeM M_step X_step:=LeM.mof (LeS.seq (LeS.drop (LeE.call z5U)) (LeS.seq LeS.rfl (LeS.seq LeS.rfl LeS.calm)))
theorem z8m{M:Mir}{f:FE}{Z:Ev}{s:Sto}{x:D}{c:Str}(h:f Z s=.ok x s)(hx:M [x] s=.ex c s):zi M (za f zk) Z s=.ex c s:=by rw[ud h,hx]
section
variable {d y:D}{s:Sto}
theorem jY (h:yC [d] s=.ok (.bl false) s):yd [d] s=.ex "NoRule" s:=by
 have st:zt ["thing"] [d]=[some d]:=rfl;simp only[yd,jB,z0b,st,_g,_i,_G,jT,z3d,zc6,z7B,ud (x:=d) (vr (Z:=[some d]) (i:=0) (s:=s) rfl),h,Rb];rfl
theorem z9R (h:yC [d] s=.ok (.bl false) s):zr [d,y] s=.ex "NoRule" s:=by
 have st:zt ["rule","lot"] [d,y]=[some d,some y]:=rfl;simp only[zr,jB,xh,st,_g,_i,_G];rw[z2q (c:="NoRule") (s':=s) (by rw[yU];exact kr (z8m (x:=d) (vr rfl) (jY h)))]
theorem zdy {r:Rl} (h:zS [y] s=.ok (.bl false) s):zr [.str (nmR r),y] s=.ex "NoLot" s:=by
 have k:=wL.ok (vK r s);have key:∀d:D,yd [d] s=.ok .non s->zr [d,y] s=.ex "NoLot" s:=λd k=>by
  have st:zt ["rule","lot"] [d,y]=[some d,some y]:=rfl;simp only[zr,jB,xh,st,_g,_i,_G];rw[zq (Z':=[some d,some y]) (s':=s) (by rw[yU,xB,ud (x:=d) (vr rfl),k];rfl),wu,kr (z8m (x:=y) (vr rfl) (z4W h))]
 exact key _ k
end
end Pn
namespace Po
open L2 Dd Pm Pg Pn
open PySem.Builtin.Str
noncomputable def noR(r:Rl):List D:=[.str (Txt.upper (nmR r)),.str (nmR r++" "),.str (Txt.slice (nmR r) (some 1) none),.str (nmR r++"s"),.str "",.non,.int 3,.tup [.str (nmR r)],.lst [.str (nmR r)],.bl true,.dct]
theorem zhN{r:Rl}{d:D}(h:d∈noR r)(s:Sto):yC [d] s=.ok (.bl false) s:=by
 simp only[noR,_q,_ad,_bx]at h;cases r<;>rcases h with rfl | rfl | rfl | rfl | rfl | rfl | rfl | rfl | rfl | rfl | rfl<;>kernel_rfl
end Po
namespace Po
open L2 Dd Pm Pg Pn
end Po
namespace Pr
open L2 Dd Pm Pg Pn Po
open PySem.W
theorem zio{N:Nat}{lt:Nat->Nat->Bool}(tot:∀i j,i<N->j<N->i≠j->lt j i=!lt i j)(tr:∀i j k,lt i j=true->lt j k=true->lt i k=true)(hN:1<=N)(h:∀i j,i<j->j<N->lt i j=true): kev N lt (kas_count N (List.toArray (List.range N)))=some (N,List.toArray (List.range N)):=by
 have P:PmN N (List.toArray (List.range N)):=⟨by simp⟩;have at_:∀i,i<N->at0 (List.toArray (List.range N)) i=i:=λi hi=>by simp[at0,hi]
 obtain⟨m,e1,e2,e3,e4,e5⟩:=z4X tot tr P (N-1) 1 (_h _) (by omega) (λi j h1 h2=>by omega);have em:m=N:=by
  by_cases q:m<N
  ·exfalso;have z:=e5 (by omega);rw[at_ m q,at_ (m-1) (by omega),tot (m-1) m (by omega) q (by omega),h (m-1) m (by omega) q]at z;cases z
  ·omega
 unfold kas_count;rw[qr,e1];simp only[_A];rw[_e (by simpa using em),em];rfl
theorem range_getD{L:List (List Int)}:(List.range L.length).map (λi=>L.getD i [])=L:=by
 apply _bB;·simp
 ·intro i h1 h2;simp[_l,h2]
theorem zfl {L:List (List Int)} (nd:L.Nodup) (h:L.length<64\/Up L):∃p,ziN L=some p/\p.toList.Perm (List.range L.length)/\Up (p.toList.map λi=>L.getD i []):=by
 have tot:∀i j,i<L.length->j<L.length->i≠j->lexN (L.getD j []) (L.getD i [])=!lexN (L.getD i []) (L.getD j []):=λi j hi hj hij=>by
  refine z8J λz=>hij ?_;simp only[_l,_f hi,_f hj,_bc]at z;exact (_b8 nd).mp z
 have tr:∀i j k,lexN (L.getD i []) (L.getD j [])=true->lexN (L.getD j []) (L.getD k [])=true->lexN (L.getD i []) (L.getD k [])=true:=λi j k=>zaE;unfold ziN;by_cases q:L.length<2
 ·rw[_e q];refine⟨_,rfl,by simp,?_⟩;rw[show (List.toArray (List.range L.length)).toList=List.range L.length by simp,range_getD];match L,q with
  | [],_=>exact List.Pairwise.nil | [a],_=>exact List.pairwise_singleton _ _
 ·rw[_j q];by_cases q2:L.length<64
  ·rw[_e q2];obtain⟨p,e,h1,h2⟩:=zco (N:=L.length) (lt:=λi j=>lexN (L.getD i []) (L.getD j [])) tot tr (by omega);exact⟨p,e,h1,by rw[Up,_bt];exact h2⟩
  ·rw[_j q2];have hu:=h.resolve_left q2;rw[zio tot tr (by omega) (λi j hij hj=>by
    have:=List.pairwise_iff_getElem.mp hu i j (by omega) hj hij;simpa[_l,show i<L.length by omega,hj] using this)];simp only;rw[_e trivial];refine⟨_,rfl,by simp,?_⟩;rw[show (List.toArray (List.range L.length)).toList=List.range L.length by simp,range_getD];exact hu
theorem zcT{F:List (List Int)}{s:Sto}{d:D}(hd:listOf s d=some (F.map rD))(nd:F.Nodup)(h:F.length<64\/Up F)(ne:∀v∈F,v≠[]):∃G:List (List Int),zc2 s d=some (G.map rD)/\Up G/\(∀x,x∈G ↔ x∈F)/\G.length=F.length:=by
 obtain⟨p,e,pm,up⟩:=zfl nd h;have mem:∀i,i∈p.toList ↔ i<F.length:=λi=>by rw[pm.mem_iff,_aI]
 have ln:p.toList.length=F.length:=by have:=pm.length_eq;simpa using this
 refine⟨p.toList.map λi=>F.getD i [],?_,up,λx=>?_,by simpa using ln⟩
 ·have t:z5m (F.map rD)=some F:=z6y F;unfold zc2;rw[hd];simp only[t,e];rw[_e]
  ·congr 1;rw[_bj];refine _a7 λi hi=>?_;have:=(mem i).mp hi;simp[_l,this]
  ·refine⟨?_,?_,by simpa using ln⟩
   ·rw[_Y];intro v hv;have:=ne v hv;cases v with
    | nil=>exact absurd rfl this | cons a b=>rfl
   ·rw[_Y];intro i hi;simpa using (mem i).mp hi
 ·have:(p.toList.map λi=>F.getD i []).Perm F:=by
   have:=pm.map (λi=>F.getD i []);rwa [range_getD]at this
  exact this.mem_iff
theorem z5t {α β:Type} {all:List D} {s:Sto} {fi2:D->Sto->R ItD} {fb:D->D->Sto->R D} (g:α->D) (g2:α->β->D) (l2:α->List β) (f:α->β->D):∀(l:List α) (acc:List D),(∀a∈l,fi2 (g a) s=.ok ((l2 a).map (g2 a),[]) s)->(∀a∈l,∀b∈l2 a,fb (g a) (g2 a b) s=.ok (f a b) s)->acc.length+(l.flatMap λa=>(l2 a).map (f a)).length<=cap-> z4q [] all (λd acc s=>(fi2 d s).bind λit2 s2=>uc it2.2 it2.1 (λd2 s=>(fb d d2 s).bind λd s3=>.ok (some d) s3) it2.1 acc s2) (l.map g) acc s=.ok (acc++l.flatMap λa=>(l2 a).map (f a)) s
 | [],acc,_,_,_=>by simp[z4q,okG] | x::xs,acc,h1,h2,hl=>by
  have og:okG [] all s:=by intro p hp;simp at hp
  rw[List.flatMap_cons,_M,_I]at hl;rw[_v,z4q,_e og,h1 x (by simp),Rb];have c:=qT (s:=s) (all:=(l2 x).map (g2 x)) (body:=λd2 s=>(fb (g x) d2 s).bind λd s3=>.ok (some d) s3) (g2 x) (f x) (λ_=>true) (l2 x) acc (λb hb=>by simp[h2 x (by simp) b hb]) (by omega);rw[c,Rb,List.filter_eq_self.mpr (by simp)];rw[z5t g g2 l2 f xs _ (λa ha=>h1 a (by simp[ha])) (λa ha=>h2 a (by simp[ha])) (by simp only[_M,_I];omega)];simp
theorem z6e {α β:Type} {fi:FI} {mp:List (Option Nat)} {k1 k2:Nat} {fi2:FI} {fe:FE} {Z:Ev} {s:Sto} (g:α->D) (g2:α->β->D) (l:List α) (l2:α->List β) (f:α->β->D) (hi:fi Z s=.ok (l.map g,[]) s) (hi2:∀a∈l,fi2 ((yh mp Z).set k1 (some (g a))) s=.ok ((l2 a).map (g2 a),[]) s) (he:∀a∈l,∀b∈l2 a,fe (((yh mp Z).set k1 (some (g a))).set k2 (some (g2 a b))) s=.ok (f a b) s) (hl:(l.flatMap λa=>(l2 a).map (f a)).length<=cap):z1a fi mp k1 k2 fi2 fe Z s=.ok (.lst (l.flatMap λa=>(l2 a).map (f a))) s:=by
 unfold z1a z8f;rw[hi,Rb,z5t (fi2:=λd s=>fi2 ((yh mp Z).set k1 (some d)) s) (fb:=λd d2 s=>fe (((yh mp Z).set k1 (some d)).set k2 (some d2)) s) g g2 l2 f l [] hi2 he (by simpa using hl)];rfl
theorem zhD {x d:Int} {m:Nat} (s:Sto) (h0:0<=x) (h1:x<=1000) (d0:0<=d) (d1:d<=1000) (hm:m<=99):yB [.int x,.int d,.int m] s=.ok (.lst (iL (z1h x d m))) s:=by
 have st:zt ["left","divider","most"] [.int x,.int d,.int m]=[some (.int x),some (.int d),some (.int m)]:=rfl;unfold yB Mof um;rw[_e (by rfl),st,vY,xg,zbu,vN (b:=decide (x<d)) (by rw[op2 (x:=.int x) (y:=.int d) (vr rfl) (vr rfl),zjW]),Rb];unfold z1h;by_cases q:x<d
 ·rw[_e (by simpa using q),_e q,ziC,zo,vr (d:=.int x) rfl,Rb,zo,op2 (x:=.int m) (y:=.int 1) (vr rfl) rfl,z5M,Rb,zo,vr (d:=.int d) rfl,Rb,zH];simp only[Rb];rw[_e ⟨h0,h1,by omega,by omega,by omega,d1⟩];simp[zaQ,_b1]
 ·rw[_j (by simpa using q),_j q,wo,zH];simp[cap]
end Pr
namespace Dd
open L2 PySem.W Pm Pr
end Dd
namespace Pg
open L2 Dd
end Pg
namespace Dd
open L2
end Dd
namespace L2
open LCg
end L2
namespace Dd
open L2
end Dd
namespace K73
open L2 Dd Pg
def rsX:List Str:=["Ended","NoLot","NoNumber","NoRule","NoSize","TooMany"]
noncomputable def csX:List Str:=["NoLot","NoRule","Ended","NoBottom","NoRoot","NoCube","NoSize","NoNumber","TooMany","NoTable","NoTuple","NotAlike","NotFair","NoText","NoStep","NoDeed","NoRow"]
@[simp] noncomputable def wY:FS:=(wj 1 (ue (za (z1r rsX "NoLot" (zc 0)) (za (z1r rsX "NoRule" (zc 0)) (za (z1r rsX "Ended" (zc 0)) (za (z1r rsX "NoBottom" (zc 0)) zk))))))
@[simp] noncomputable def wN:FS:=(wj 1 (eOp vt (zc 1) (ue (za (z1r rsX "NoRoot" (zc 0)) (za (z1r rsX "NoCube" (zc 0)) (za (z1r rsX "NoSize" (zc 0)) (za (z1r rsX "NoNumber" (zc 0)) zk)))))))
@[simp] noncomputable def wV:FS:=(wj 1 (eOp vt (zc 1) (ue (za (z1r rsX "TooMany" (zc 0)) (za (z1r rsX "NoTable" (zc 0)) (za (z1r rsX "NoTuple" (zc 0)) (za (z1r rsX "NotAlike" (zc 0)) zk)))))))
@[simp] noncomputable def wU:FS:=(wj 1 (eOp zd0 (zc 1) (zek (za (z1r rsX "NotFair" (zc 0)) (za (z1r rsX "NoText" (zc 0)) (za (z1r rsX "NoStep" (zc 0)) (za (z1r rsX "NoDeed" (zc 0)) zk)))))))
@[simp] noncomputable def wQ:FS:=(wy (zgQ (zc 1) (z1r rsX "NoRow" (zc 0))))
@[simp] noncomputable def z1j:FS:=(wK (eC (.str "other")))
@[simp] noncomputable def wZ:FS:=(fIf (fOr (tOf (eOp dNe (zc5 (zc 1) (eC (.bl true))) (eC (.int 1)))) (z2E (tOf (zlb rsX (zc 0))))) z1j xA)
@[simp] noncomputable def wR:FS:=(wj 2 (ue (za (eC (.str "lot")) (za (eC (.str "rule")) (za (eC (.str "ended")) (za (eC (.str "bottom")) (za (eC (.str "root")) (za (eC (.str "cube")) (za (eC (.str "size")) (za (eC (.str "number")) (za (eC (.str "many")) zk)))))))))))
@[simp] noncomputable def wT:FS:=(wK (eOp dIx (eOp vt (zc 2) (eOp zjo (ue (za (eC (.str "no")) zk)) (eC (.int 8)))) (z7M (zc 1) (eC (.bl true)))))
noncomputable def jk:FS:=(zF wY (zF wN (zF wV (zF wU (zF wQ (zF wZ (zF wR wT)))))))
noncomputable def zJ:Mir:=Mof ["_law_e","_law_some","_law_words"] 1 jk
@[simp] noncomputable def uu:FS:=(wy (zi Pg.zr (za (zc 0) (za (zc 1) zk))))
@[simp] noncomputable def jd:FS:=(wy (zi Pg.zD (za (zc 2) (za (eC (.int 1)) (za (eC (.int 30)) zk)))))
@[simp] noncomputable def xE:FS:=(fIf (zhF (tOf (eOp dLe (zi wl (za (zc 4) zk)) (zc 2))) (tOf (zi Pg.vo (za (zc 0) (za (zc 4) (za (zc 1) zk)))))) (qK z2H) xA)
@[simp] noncomputable def xc:FS:=(fIf (tOf (eOp dGt (zi ub (za (zc 3) zk)) (eC (.int 1000)))) (z0X "TooMany") xA)
@[simp] noncomputable def wM:FS:=(zaA (vx (zi Pg.xU (za (zc 0) (za (zc 1) (za (zc 2) zk))))) (kb 4) (zF xE xc))
noncomputable def qt:FS:=(zF uu (zF jd (zF (qK z2c) (zF wM (qK vR)))))
noncomputable def ye:Mir:=jB ["rule","lot","most","found","ahead"] 3 qt
@[simp] noncomputable def yu:FS:=(wy (z8z (eOp dIx (ue (za (eC (.fn "lots_to")) (za (eC (.fn "least_with")) zk))) (zc 0)) [("lots_to",ye),("least_with",Pg.zU)] (za (zc 1) (za (zc 2) (za (zc 3) zk)))))
@[simp] noncomputable def uY:FS:=(wK (zi zJ (za (zc 4) zk)))
@[simp] noncomputable def qa:FS:=(zah rsX yu 4 uY)
@[simp] noncomputable def z02:FS:=(wK (eC (.str "told")))
noncomputable def ja:FS:=(zF qa z02)
noncomputable def zf:Mir:=z9x (Mof ["_law_way","_law_rule","_law_one","_law_other","_law_e"] 4 ja)
@[simp] noncomputable def z1I:FS:=(wj 2 (zi Pg.vn (za (zi Pg.yS (za (zc 0) (za (zc 1) zk))) zk)))
@[simp] noncomputable def z2Y:FS:=(wj 3 (eOp dIx (zi Pg.yE zk) (zi Pg.zm (za (zc 2) (za (eC (.int 4)) zk)))))
@[simp] noncomputable def z2w:FS:=(wj 4 (eOp dIx (ue (za (zby (zc 3)) (za (zl1 (zc 3) (uT (eC (.int 1)))) (za (eOp zdH (zc 3) (eC (.str "s"))) (za (eC (.str "")) (za (eC .non) (za (eC (.int 3)) (za (qM (za (zc 3) zk)) (za (ue (za (zc 3) zk)) (za (eC (.bl true)) (za (eC .dct) zk))))))))))) (zi Pg.zm (za (zc 2) (za (eC (.int 10)) zk)))))
@[simp] noncomputable def z1S:FS:=(wj 5 (zi Pg.xZ (za (zc 2) (za (eOp vt (eC (.int 2)) (zi Pg.zm (za (zc 2) (za (eC (.int 3)) zk)))) (za (eOp z30 (eC (.int 10)) (eC (.int 39))) zk)))))
@[simp] noncomputable def z2a:FS:=(wj 6 (zi Pg.xJ (za (zc 2) (za (zc 5) zk))))
@[simp] noncomputable def z2l:FS:=(wj 7 (eOp dIx (ue (za (eC (.int 0)) (za (eC (.int 31)) (za (z3Z (eC (.int 1))) (za (eC (.bl true)) (za (eC .non) (za (eC (.str "1")) (za (qM (za (eC (.int 1)) zk)) (za (eOp z30 (eC (.int 10)) (eC (.int 39))) zk))))))))) (zi Pg.zm (za (zc 2) (za (eC (.int 8)) zk)))))
@[simp] noncomputable def z2e:FS:=(wj 8 (ue (za (zi zf (za (eC (.int 0)) (za (zc 4) (za (zc 6) (za (zc 7) zk))))) (za (zi zf (za (eC (.int 0)) (za (zc 3) (za (zc 6) (za (zc 7) zk))))) (za (zi zf (za (eC (.int 0)) (za (zc 3) (za (zc 5) (za (zc 7) zk))))) zk)))))
@[simp] noncomputable def z2b:FS:=(wj 8 (eOp vt (zc 8) (ue (za (zi zf (za (eC (.int 0)) (za (zc 4) (za (zc 5) (za (eC (.int 5)) zk))))) (za (zi zf (za (eC (.int 0)) (za (zc 3) (za (zc 6) (za (eC (.int 5)) zk))))) zk)))))
@[simp] noncomputable def zcW:FS:=(wK (eC (.bl false)))
@[simp] noncomputable def kP:FS:=(fIf (tOf (eOp dNe (zc 8) (ue (za (eC (.str "rule")) (za (eC (.str "lot")) (za (eC (.str "number")) (za (eC (.str "rule")) (za (eC (.str "lot")) zk)))))))) zcW xA)
@[simp] noncomputable def jw:FS:=(wj 9 (eOp dIx (ue (za (eC (.int 1)) (za (eC (.int 4)) (za (eC (.int 0)) (za (eC (.bl true)) (za (eC .non) (za (eC (.str "2")) (za (qM (za (eC (.int 2)) zk)) (za (eOp z30 (eC (.int 10)) (eC (.int 39))) zk))))))))) (zi Pg.zm (za (zc 2) (za (eC (.int 8)) zk)))))
@[simp] noncomputable def jF:FS:=(wj 10 (eOp dIx (ue (za (eC (.int 13)) (za (z3Z (eC (.int 1))) (za (eC (.bl true)) (za (eC .non) (za (eC (.str "1")) (za (ue (za (eC (.int 1)) zk)) (za (eOp z30 (eC (.int 10)) (eC (.int 39))) zk)))))))) (zi Pg.zm (za (zc 2) (za (eC (.int 7)) zk)))))
@[simp] noncomputable def jy:FS:=(wj 8 (ue (za (zi zf (za (eC (.int 1)) (za (zc 4) (za (zc 9) (za (zc 10) zk))))) (za (zi zf (za (eC (.int 1)) (za (zc 3) (za (zc 9) (za (zc 10) zk))))) (za (zi zf (za (eC (.int 1)) (za (zc 3) (za (eC (.int 2)) (za (zc 10) zk))))) zk)))))
@[simp] noncomputable def jz:FS:=(wj 8 (eOp vt (zc 8) (ue (za (zi zf (za (eC (.int 1)) (za (zc 4) (za (eC (.int 2)) (za (eC (.int 1)) zk))))) (za (zi zf (za (eC (.int 1)) (za (zc 3) (za (zc 9) (za (eC (.int 1)) zk))))) (za (zi zf (za (eC (.int 1)) (za (zc 3) (za (eC (.int 2)) (za (eC (.int 1)) zk))))) zk))))))
@[simp] noncomputable def zcZ:FS:=(wK (eC (.bl false)))
@[simp] noncomputable def jG:FS:=(fIf (tOf (eOp dNe (zc 8) (ue (za (eC (.str "rule")) (za (eC (.str "size")) (za (eC (.str "number")) (za (eC (.str "rule")) (za (eC (.str "size")) (za (eC (.str "told")) zk))))))))) zcZ xA)
@[simp] noncomputable def z75:FS:=(zaA (z6T (za (zi zdh (za (eC (.int 1)) (za (zi z7D (za (zi ub (za (zc 0) zk)) (za (eC (.int 8)) zk))) zk))) zk)) (kb 1) (zF z1I (zF z2Y (zF z2w (zF z1S (zF z2a (zF z2l (zF z2e (zF z2b (zF kP (zF jw (zF jF (zF jy (zF jz jG))))))))))))))
@[simp] noncomputable def zdd:FS:=(wK (eC (.bl false)))
@[simp] noncomputable def z1s:FS:=(fIf (fOr (tOf (eOp dNe (zi zf (za (eC (.int 0)) (za (eC (.str "all")) (za (qM (za (eC (.int 0)) (za (eC (.int 0)) (za (eC (.int 1)) (za (eC (.int 0)) zk))))) (za (eC (.int 30)) zk))))) (eC (.str "many")))) (tOf (eOp dNe (zi zf (za (eC (.int 0)) (za (eC (.str "turn")) (za (qM (za (eC (.int 0)) (za (eC (.int 0)) (za (eC (.int 0)) (za (eC (.int 1)) zk))))) (za (eC (.int 30)) zk))))) (eC (.str "many"))))) zdd xA)
@[simp] noncomputable def z4Y:FS:=(wK (zcL (eOp dEq (zi zf (za (eC (.int 0)) (za (eC (.str "all")) (za (qM (za (eC (.int 0)) (za (eC (.int 0)) (za (eC (.int 1)) zk)))) (za (eC (.int 30)) zk))))) (eC (.str "told"))) (eOp dEq (zi zf (za (eC (.int 1)) (za (eC (.str "turn")) (za (eC (.int 3)) (za (eC (.int 12)) zk))))) (eC (.str "told")))))
noncomputable def zdX:FS:=(zF z75 (zF z1s z4Y))
noncomputable def zg3:Mir:=Mof ["_law_script","_law_at","_law_pot_here","_law_rule","_law_bad","_law_lot_here","_law_none","_law_far","_law_told_here","_law_size","_law_steps"] 1 zdX
end K73
set_option maxHeartbeats 6000000
namespace K73
open L2 Dd Pg
structure Txt(mg:Str->Option Value):Prop where
 f0:∃t,mg "LEAST_SIZE"=some (.int 2 t)
 f1:∃t,mg "MOST_AHEAD"=some (.int 30 t)
 f2:∃t,mg "MOST_LOTS"=some (.int 1000 t)
 f3:∃t,mg "MOST_NUMBER"=some (.int 16 t)
 f4:∃t,mg "MOST_SIZE"=some (.int 4 t)
 f5:∃t,mg "MOST_SIZE_LED"=some (.int 3 t)
 f6:∃t,mg "MOST_STEPS"=some (.int 12 t)
 f7:mg "ValueError"=none
 f8:mg "all"=none
 f9:mg "bool"=none
 f10:mg "enumerate"=none
 f11:mg "int"=none
 f12:mg "isinstance"=none
 f13:mg "len"=none
 f14:mg "list"=none
 f15:mg "max"=none
 f16:mg "min"=none
 f17:mg "range"=none
 f18:mg "sorted"=none
 f19:mg "str"=none
 f20:mg "tuple"=none
 f21:mg "zip"=none
theorem zgY:bootBuiltins "all"=some (.builtin "all"):=by decide +kernel
theorem zg6:bootBuiltins "bool"=some (.type "bool"):=by decide +kernel
theorem ziv:bootBuiltins "int"=some (.type "int"):=by decide +kernel
theorem uM:bootBuiltins "len"=some (.builtin "len"):=by decide +kernel
theorem zfc:bootBuiltins "list"=some (.type "list"):=by decide +kernel
theorem z0F:bootBuiltins "max"=some (.builtin "max"):=by decide +kernel
theorem z6h:bootBuiltins "min"=some (.builtin "min"):=by decide +kernel
theorem z9U:bootBuiltins "sorted"=some (.builtin "sorted"):=by decide +kernel
theorem zi7:bootBuiltins "str"=some (.type "str"):=by decide +kernel
theorem kS:bootBuiltins "tuple"=some (.type "tuple"):=by decide +kernel
theorem zlR:(["_law_pot_here","_law_far","_law_place"]:List Str).Nodup:=by decide +kernel
theorem zjK:(["number"]:List Str).Nodup:=by decide +kernel
theorem zlh:(["lot","by","number","quotient"]:List Str).Nodup:=by decide +kernel
theorem zm5:(["steps","many","lot"]:List Str).Nodup:=by decide +kernel
theorem zl3:(["least","most","ahead","number"]:List Str).Nodup:=by decide +kernel
theorem zlx:(["part"]:List Str).Nodup:=by decide +kernel
theorem zlM:(["divided","lot","by","at"]:List Str).Nodup:=by decide +kernel
theorem zlz:(["place","at"]:List Str).Nodup:=by decide +kernel
theorem zlj:(["lot","most","at","number"]:List Str).Nodup:=by decide +kernel
theorem zli:(["numbers","ahead","greater"]:List Str).Nodup:=by decide +kernel
section
local macro_rules | `(tactic| trivial)=>`(tactic| exact⟨rfl,rfl,rfl,by decide +kernel,rfl,by decide +kernel,by decide +kernel⟩)
theorem z7l:zA ["thing"] ["thing"] (zh kB):=by trivial
theorem z7w:zA ["thing"] ["thing"] (zh kj):=by trivial
theorem xl:zA ["size","least","most","found","place"] ["size","least","most"] (zh wv):=by trivial
theorem wq:zA ["lot","at"] ["lot"] (zh yV):=by trivial
theorem z32:zA ["lot"] ["lot"] (zh uF):=by trivial
theorem z9e:zA ["lot","place"] ["lot","place"] (zh z0C):=by trivial
theorem z8U:zA ["thing"] ["thing"] (zh z0n):=by trivial
theorem zcv:zA ["rule","numbers"] ["rule","numbers"] (zh z4U):=by trivial
theorem z3u:zA ["lot","most"] ["lot","most"] (zh uA):=by trivial
theorem z04:zA ["left","divider","most"] ["left","divider","most"] (zh we):=by trivial
theorem z22:zA ["_law_script","_law_k"] ["_law_script","_law_k"] (zh vG):=by trivial
theorem ww:zA ["_law_cell","_law_number","_law_j","_law_more"] ["_law_cell"] (zh kG):=by trivial
theorem z0N:zA ["_law_pot_here","_law_far","_law_found"] ["_law_pot_here","_law_far"] (zh js):=by trivial
theorem yz:zA ["_law_e","_law_some","_law_words"] ["_law_e"] (zh vy):=by trivial
theorem z4O:zA [] [] (zh qc):=by trivial
theorem z4B:zA ["thing","many"] ["thing","many"] (zh uZ):=by trivial
theorem z3e:zA ["thing","least","most"] ["thing","least","most"] (zh uC):=by trivial
theorem z5u:zA ["thing","most"] ["thing","most"] (zh jq):=by trivial
theorem z3L:zA ["lot","greatest","others"] ["lot"] (zh z0z):=by trivial
theorem z2s:zA ["lot","greatest","others"] ["lot"] (zh kf):=by trivial
theorem z5N:zA ["lot","by"] ["lot"] (zh z1X):=by trivial
theorem z9s:zA ["lot"] ["lot"] (zh z0B):=by trivial
theorem z12:zA ["thing"] ["thing"] (zh uo):=by trivial
theorem wH:zA ["lot","by","most","found","at","number","numbers"] ["lot","by","most"] (zh jh):=by trivial
theorem vz:zA ["_law_pot_here","_law_size","_law_most","_law_far","_law_found","_law_way","_law_at","_law_to"] ["_law_pot_here","_law_size","_law_most"] (zh ky):=by trivial
theorem wE:zA ["_law_pot_here","_law_lot_here","_law_at","_law_odd","_law_some"] ["_law_pot_here","_law_lot_here"] (zh uE):=by trivial
theorem zal:zA ["thing"] ["thing"] (zh z2V):=by trivial
theorem kE:zA ["rule","lot","deal","by","divided"] ["rule","lot"] (zh ku):=by trivial
theorem z3o:zA ["rule","lot","most"] ["rule","lot","most"] (zh uB):=by trivial
theorem z1K:zA ["thing"] ["thing"] (zh qb):=by trivial
theorem z13:zA ["lot"] ["lot"] (zh uj):=by trivial
theorem vc:zA ["rule","lot"] ["rule","lot"] (zh yx):=by trivial
theorem z17:zA ["rule","lot"] ["rule","lot"] (zh uz):=by trivial
theorem z0m:zA ["rule","lot","by","quotients","left"] ["rule","lot"] (zh z4p):=by trivial
theorem yn:zA ["rule","size","most","steps","lot","path","many","behind"] ["rule","size","most"] (zh vS):=by trivial
theorem z7r:zA ["rule","ahead","lot"] ["rule","ahead","lot"] (zh kC):=by trivial
theorem z0v:zA ["rule","lot","most","found","ahead"] ["rule","lot","most"] (zh z0j):=by trivial
theorem ql:zA ["rule","size","steps","many","found"] ["rule","size","steps"] (zh qm):=by trivial
theorem z0O:zA ["_law_way","_law_rule","_law_one","_law_other","_law_e"] ["_law_way","_law_rule","_law_one","_law_other"] (zh qR):=by trivial
theorem ur:zA ["_law_script","_law_at","_law_pot_here","_law_rule","_law_bad","_law_lot_here","_law_none","_law_far","_law_told_here","_law_size","_law_steps"] ["_law_script"] (zh z3z):=by trivial
end
section
variable {P:Program}{w:World}{K:W.Frag}{mg:Str->Option Value}{base:Heap}(T:Txt mg){f:Addr}{fd:FuncData}
include T
local macro_rules | `(tactic| trivial)=>`(tactic| first | exact (λ_ _ _ _ _ _ us hl=>match us,hl with | [],_=>rfl) | exact (λ_ _ _ _ _ _ us hl=>match us,hl with | [_],_=>rfl) | exact (λ_ _ _ _ _ _ us hl=>match us,hl with | [_,_],_=>rfl) | exact (λ_ _ _ _ _ _ us hl=>match us,hl with | [_,_,_],_=>rfl) | exact (λ_ _ _ _ _ _ us hl=>match us,hl with | [_,_,_,_],_=>rfl))
theorem z6s(F:Fun K "is_whole" "is_whole" kB f fd)(hm:mg "is_whole"=some (.ref f))  : Has P w K mg base CX0 "is_whole" 1 Pg.zY:= (yk F hm (F.binds (ps:=["thing"]) (by trivial)) z7l rfl λcdv A outer s H E hr hc=> have hu:=hr.units;(zp (yf (z9r (zhJ (by decide) ziv (by rfl) T.f12 (by rfl) T.f11 (zb 0)) (z9h (zhO (zhJ (by decide) zg6 (by rfl) T.f12 (by rfl) T.f9 (zb 0))))))))
theorem z6j (F:Fun K "has_size" "has_size" kj f fd) (hm:mg "has_size"=some (.ref f))  : Has P w K mg base CX0 "has_size" 1 Pg.ym:= (yk F hm (F.binds (ps:=["thing"]) (by trivial)) z7w rfl λcdv A outer s H E hr hc=> have hu:=hr.units;(zp (yf (z9r (zhJ (by decide) kS (by rfl) T.f12 (by rfl) T.f20 (zb 0)) (z9h (zfS zeK zeK (zeH (by rfl) T.f0) (zV z0k (by rfl) T.f13 uM (aN (zb 0) zd) (he:=(zC ..))) (zeH (by rfl) T.f4)))))))
theorem kT(F:Fun K "tuples_between" "tuples_between" wv f fd)(hm:mg "tuples_between"=some (.ref f))  : Has P w K mg base CX0 "tuples_between" 1 Pg.yb:= (yk F hm (F.binds (ps:=["size","least","most"]) (by trivial)) xl rfl λcdv A outer s H E hr hc=> have hu:=hr.units;(zg (yG 3 xl.nd (xr (aT (wO zd) zd))) (zg (z7k _aZ hc (km (by rfl) T.f17 (aN (zb 0) zd)) (z42 4 xl.nd) (zp (zbh 3 ["least","most","ahead","number"] [some 1,some 2,none,none] 2 3 xl.nd hc (z3t (zb 3)) (λ_ _ _=>yJ (i:=2) zl3 (by rfl) (by first | exact Or.inl rfl | exact Or.inr rfl)) (λ_ _ _=>yJ (i:=3) zl3 (by rfl) (by first | exact Or.inl rfl | exact Or.inr rfl)) (λ_ _ _=>(z8j (by rfl) T.f17 (aN (zb 0) (aB (zQ xp (zb 1) zj) zd)))) (λ_ _ _=>(zQ xp (zb 2) (wO (aN (zb 3) zd))))))) (zp (yf (zb 3))))))
theorem qq (F:Fun K "greatest_and_others" "greatest_and_others" yV f fd) (hm:mg "greatest_and_others"=some (.ref f))  : Has P w K mg base CX0 "greatest_and_others" 1 Pg.zB:= (yk F hm (F.binds (ps:=["lot"]) (by trivial)) wq rfl λcdv A outer s H E hr hc=> have hu:=hr.units;(zg (yG 1 wq.nd (z50 (zb 0) (zV (z24 (by exact hc)) (by rfl) T.f15 z0F (aN (zb 0) zd) (he:=(zC ..))))) (zp (yf (wO (aN (zb 1) (aB (zQ xp (zQ xp (wx (zb 0) uQ (uw (zb 1))) (wO (aK zj zd))) (wx (zb 0) (uw (zQ xp (zb 1) zj)) uQ)) zd)))))))
theorem z2R (F:Fun K "least_place" "least_place" uF f fd) (hm:mg "least_place"=some (.ref f))  : Has P w K mg base CX0 "least_place" 1 Pg.zZ:= (yk F hm (F.binds (ps:=["lot"]) (by trivial)) z32 rfl λcdv A outer s H E hr hc=> have hu:=hr.units;(zp (yf (z50 (zb 0) (zV (ze3 (by exact hc)) (by rfl) T.f16 z6h (aO (jb ["number"] [none] (by exact hc) (z3t (zb 0)) (λ_ _ _=>yJ (i:=0) zjK (by rfl) (by first | exact Or.inl rfl | exact Or.inr rfl)) (ux 0 (by rfl)) (λ_ _ _=>z1J (yy (zc7 hu) (zb 0) zj)) (λ_ _ _=>(zb 0))) zd) (he:=(vO ..)))))))
theorem z7I (F:Fun K "all_but" "all_but" z0C f fd) (hm:mg "all_but"=some (.ref f))  : Has P w K mg base CX0 "all_but" 1 Pg.xu:= (yk F hm (F.binds (ps:=["lot","place"]) (by trivial)) z9e rfl λcdv A outer s H E hr hc=> have hu:=hr.units;(zp (yf (jb ["place","at"] [some 1,none] (by exact hc) (km (by rfl) T.f17 (aQ (zV z0k (by rfl) T.f13 uM (aN (zb 0) zd) (he:=(zC ..))) zd)) (λ_ _ _=>yJ (i:=1) zlz (by rfl) (by first | exact Or.inl rfl | exact Or.inr rfl)) (ux 1 (by rfl)) (λ_ _ _=>z1J (yy (zc7 hu) (zb 1) (zb 0))) (λ_ _ _=>(zb 1))))))
theorem z7h(F:Fun K "is_rule" "is_rule" z0n f fd)(hm:mg "is_rule"=some (.ref f))(T_RULES:zfy P w K mg "RULES" qw):Has P w K mg base CX0 "is_rule" 1 Pg.yC:= (yk F hm (F.binds (ps:=["thing"]) (by trivial)) z8U rfl λcdv A outer s H E hr hc=> have hu:=hr.units;(zp (yf (z9r (zhJ (by decide) zi7 (by rfl) T.f12 (by rfl) T.f19 (zb 0)) (z9h (zgb T_RULES (by rfl) (zb 0)))))))
theorem zaV(F:Fun K "moved" "moved" z4U f fd)(hm:mg "moved"=some (.ref f))  : Has P w K mg base CX0 "moved" 1 Pg.qP:= (yk F hm (F.binds (ps:=["rule","numbers"]) (by trivial)) zcv rfl λcdv A outer s H E hr hc=> have hu:=hr.units;(zp (yf (zhp (yy (z70 hu) (zb 0) yt) (zQ xp (wx (zb 1) (uw zj) uQ) (wx (zb 1) uQ (uw zj))) (zb 1)))))
theorem z2I (F:Fun K "one_greater" "one_greater" uA f fd) (hm:mg "one_greater"=some (.ref f))  : Has P w K mg base CX0 "one_greater" 1 Pg.qA:= (yk F hm (F.binds (ps:=["lot","most"]) (by trivial)) z3u rfl λcdv A outer s H E hr hc=> have hu:=hr.units;(zp (yf (zf2 ["lot","most","at","number"] [some 0,some 1,none,none] 2 3 (by exact hc) (km (by rfl) T.f17 (aQ (zV z0k (by rfl) T.f13 uM (aN (zb 0) zd) (he:=(zC ..))) zd)) (λ_ _ _=>yJ (i:=2) zlj (by rfl) (by first | exact Or.inl rfl | exact Or.inr rfl)) (λ_ _ _=>yJ (i:=3) zlj (by rfl) (by first | exact Or.inl rfl | exact Or.inr rfl)) (λ_ _ _=>(z8j (by rfl) T.f17 (aB (zQ xp (z0E (zb 0) (zb 2)) zj) (aB (zQ xp (zb 1) zj) zd)))) (λ_ _ _=>(zQ xp (zQ xp (wx (zb 0) uQ (uw (zb 2))) (wO (aN (zb 3) zd))) (wx (zb 0) (uw (zQ xp (zb 2) zj)) uQ)))))))
theorem kA(F:Fun K "numbers_leaving" "numbers_leaving" we f fd)(hm:mg "numbers_leaving"=some (.ref f))  : Has P w K mg base CX0 "numbers_leaving" 1 Pg.yB:= (yk F hm (F.binds (ps:=["left","divider","most"]) (by trivial)) z04 rfl λcdv A outer s H E hr hc=> have hu:=hr.units;(zp (yf (zhp (yy zlp (zb 0) (zb 1)) (z60 (by exact hc) (by rfl) T.f14 (by rfl) T.f17 (aN (zb 0) (aB (zQ xp (zb 2) zj) (aN (zb 1) zd)))) (xr zd)))))
theorem z1o (F:Fun K "_law_cell_at" "_law_cell_at" vG f fd) (hm:mg "_law_cell_at"=some (.ref f))  : Has P w K mg base CX0 "_law_cell_at" 1 Pg.yS:= (yk F hm (F.binds (ps:=["_law_script","_law_k"]) (by trivial)) z22 rfl λcdv A outer s H E hr hc=> have hu:=hr.units;(zg (z1d (yy zlp (zb 1) (zV z0k (by rfl) T.f13 uM (aN (zb 0) zd) (he:=(zC ..)))) (zp (yf (z0E (zb 0) (zb 1)))) yQ) (zp (yf zj))))
theorem z6w(F:Fun K "_law_pot" "_law_pot" kG f fd)(hm:mg "_law_pot"=some (.ref f))  : Has P w K mg base CX0 "_law_pot" 1 Pg.vn:= (yk F hm (F.binds (ps:=["_law_cell"]) (by trivial)) ww rfl λcdv A outer s H E hr hc=> have hu:=hr.units;(zg (z1d (yy zln (zb 0) (zQ z68 zj zj)) (zp (yf (zbz (aB (zQ zd6 (zb 0) (zQ z68 zj zj)) zd)))) yQ) (zg (yG 1 ww.nd zj) (zg (z7k _aZ hc (km (by rfl) T.f17 (aK zj zd)) (z42 2 ww.nd) (zg (yG 3 ww.nd (zQ zcO (zQ z2n (zQ xp (zQ xp (zQ zcO (zb 0) zj) (zQ z2n zj (zb 2))) zj) zj) zj)) (zg (yG 3 ww.nd (zQ zcO (zQ xp (zQ xp (zQ z2n (zb 3) (zb 3)) (zQ z2n zj (zb 2))) zj) zj)) (zp (yG 1 ww.nd (zQ xp (zQ z2n (zb 1) zj) (zb 3))))))) (zp (yf (zbz (aN (zb 1) zd))))))))
theorem z47(F:Fun K "_law_take" "_law_take" js f fd)(hm:mg "_law_take"=some (.ref f))  : Has P w K mg base CX0 "_law_take" 1 Pg.zm:= (yk F hm (F.binds (ps:=["_law_pot_here","_law_far"]) (by trivial)) z0N rfl λcdv A outer s H E hr hc=> have hu:=hr.units;(zg (yG 2 z0N.nd (zQ zcO (z0E (zb 0) zj) (zb 1))) (zg (z8s (zQ zeq (z0E (zb 0) zj) (zb 1)) (zb 0) zj) (zp (yf (zb 2))))))
theorem z1g(F:Fun K "_law_kind_of" "_law_kind_of" vy f fd)(hm:mg "_law_kind_of"=some (.ref f))(FM:z5J ⟨mg,K⟩ rsX csX):zju P w K mg base CX0 "_law_kind_of" 1 zJ:= zfF F hm (F.binds (ps:=["_law_e"]) (by trivial)) yz rfl λcdv A outer s H E hr=> have hu:=hr.units;(zg (yG 1 yz.nd (xr (aQ (jp FM (by decide) (by rfl) T.f12 (by rfl) (zb 0)) (aQ (jp FM (by decide) (by rfl) T.f12 (by rfl) (zb 0)) (aQ (jp FM (by decide) (by rfl) T.f12 (by rfl) (zb 0)) (aQ (jp FM (by decide) (by rfl) T.f12 (by rfl) (zb 0)) zd)))))) (zg (yG 1 yz.nd (zQ xp (zb 1) (xr (aQ (jp FM (by decide) (by rfl) T.f12 (by rfl) (zb 0)) (aQ (jp FM (by decide) (by rfl) T.f12 (by rfl) (zb 0)) (aQ (jp FM (by decide) (by rfl) T.f12 (by rfl) (zb 0)) (aQ (jp FM (by decide) (by rfl) T.f12 (by rfl) (zb 0)) zd))))))) (zg (yG 1 yz.nd (zQ xp (zb 1) (xr (aQ (jp FM (by decide) (by rfl) T.f12 (by rfl) (zb 0)) (aQ (jp FM (by decide) (by rfl) T.f12 (by rfl) (zb 0)) (aQ (jp FM (by decide) (by rfl) T.f12 (by rfl) (zb 0)) (aQ (jp FM (by decide) (by rfl) T.f12 (by rfl) (zb 0)) zd))))))) (zg (yG 1 yz.nd (zQ ziZ (zb 1) (zbz (aQ (jp FM (by decide) (by rfl) T.f12 (by rfl) (zb 0)) (aQ (jp FM (by decide) (by rfl) T.f12 (by rfl) (zb 0)) (aQ (jp FM (by decide) (by rfl) T.f12 (by rfl) (zb 0)) (aQ (jp FM (by decide) (by rfl) T.f12 (by rfl) (zb 0)) zd))))))) (zg (wc (z55 (zb 1) (jp FM (by decide) (by rfl) T.f12 (by rfl) (zb 0)))) (zg (z1d (RW.rt (zgS (yy (zc7 hu) (zbq (zb 1) z9w) zj) (z9b (z0t (kU (zjM FM (by rfl) T.f12 (by rfl) T.f7 (zb 0))))))) (zp (yf yt)) yQ) (zg (yG 2 yz.nd (xr (aK yt (aK yt (aK yt (aK yt (aK yt (aK yt (aK yt (aK yt (aK yt zd))))))))))) (zp (yf (z0E (zQ xp (zb 2) (zQ zkC (xr (aK yt zd)) zj)) (zag (zb 1) z9w)))))))))))
theorem z33(F:Fun K "_law_rules" "_law_rules" qc f fd)(hm:mg "_law_rules"=some (.ref f))  : Has P w K mg base CX0 "_law_rules" 1 Pg.yE:= (yk F hm (F.binds (ps:=[]) (by trivial)) z4O rfl λcdv A outer s H E hr hc=> have hu:=hr.units;(zp (yf (xr (aK yt (aK yt (aK yt (aK yt zd))))))))
theorem z3f (F:Fun K "are_wholes" "are_wholes" uZ f fd) (hm:mg "are_wholes"=some (.ref f)) (H_is_whole:Has P w K mg base CX0 "is_whole" 1 Pg.zY):Has P w K mg base CX0 "are_wholes" 2 Pg.yg:= (yk F hm (F.binds (ps:=["thing","many"]) (by trivial)) z4B rfl λcdv A outer s H E hr hc=> have hu:=hr.units;(zg (z1d (RW.rt (zgS (z0t (kU (zhJ (by decide) kS (by rfl) T.f12 (by rfl) T.f20 (zb 0)))) (z9b (yy (zc7 hu) (zV z0k (by rfl) T.f13 uM (aN (zb 0) zd) (he:=(zC ..))) (zb 1))))) (zp (yf z9w)) yQ) (zp (yf (zV (zkl (by exact hc)) (by rfl) T.f8 zgY (aO (jb ["part"] [none] (by exact hc) (z3t (zb 0)) (λ_ _ _=>yJ (i:=0) zlx (by rfl) (by first | exact Or.inl rfl | exact Or.inr rfl)) (ux 0 (by rfl)) (λ_ _ _=>z1R) (λ_ _ _=>(yF H_is_whole hr zM (aN (zb 0) zd)))) zd) (he:=(vO ..)))))))
theorem z1n(F:Fun K "want_number" "want_number" uC f fd)(hm:mg "want_number"=some (.ref f))(E_NoNumber:z7J K mg "NoNumber")(H_is_whole:Has P w K mg base CX0 "is_whole" 1 Pg.zY):Has P w K mg base (CX1 P w) "want_number" 2 Pg.zD:= (wP F hm (F.binds (ps:=["thing","least","most"]) (by trivial)) z3e rfl λcdv A outer s H E hr hc=> have hu:=hr.units;(zp (z1d (RW.rt (zgS (z0t (kU (yF H_is_whole hr z99 (aN (zb 0) zd)))) (z9b (z0t (zb1 zeK zeK (zb 1) (zb 0) (zb 2)))))) (zp (z0g E_NoNumber jv hc (by rfl))) yQ)))
theorem z3g(F:Fun K "want_size" "want_size" jq f fd)(hm:mg "want_size"=some (.ref f))(E_NoSize:z7J K mg "NoSize")(H_is_whole:Has P w K mg base CX0 "is_whole" 1 Pg.zY):Has P w K mg base (CX1 P w) "want_size" 2 Pg.zX:= (wP F hm (F.binds (ps:=["thing","most"]) (by trivial)) z5u rfl λcdv A outer s H E hr hc=> have hu:=hr.units;(zp (z1d (RW.rt (zgS (z0t (kU (yF H_is_whole hr z99 (aN (zb 0) zd)))) (z9b (z0t (zb1 zeK zeK (zeH (by rfl) T.f0) (zb 0) (zb 1)))))) (zp (z0g E_NoSize jv hc (by rfl))) yQ)))
theorem z6Y (F:Fun K "by_next" "by_next" z0z f fd) (hm:mg "by_next"=some (.ref f)) (H_greatest_and_others:Has P w K mg base CX0 "greatest_and_others" 1 Pg.zB):Has P w K mg base CX0 "by_next" 2 Pg.wI:= (yk F hm (F.binds (ps:=["lot"]) (by trivial)) z3L rfl λcdv A outer s H E hr hc=> have hu:=hr.units;(zg (z9V (yF H_greatest_and_others hr zM (aN (zb 0) zd)) (z3F 1 2 hc z3L.nd)) (zp (yf (wO (aQ (z50 (zb 2) (zV (z24 (by exact hc)) (by rfl) T.f15 z0F (aN (zb 2) zd) (he:=(zC ..)))) (aL (xr (aN (zb 1) zd)) zd)))))))
theorem z5w(F:Fun K "by_least" "by_least" kf f fd)(hm:mg "by_least"=some (.ref f))(H_greatest_and_others:Has P w K mg base CX0 "greatest_and_others" 1 Pg.zB)(H_least_place:Has P w K mg base CX0 "least_place" 1 Pg.zZ):Has P w K mg base CX0 "by_least" 2 Pg.xD:= (yk F hm (F.binds (ps:=["lot"]) (by trivial)) z2s rfl λcdv A outer s H E hr hc=> have hu:=hr.units;(zg (z9V (yF H_greatest_and_others hr zM (aN (zb 0) zd)) (z3F 1 2 hc z2s.nd)) (zp (yf (wO (aQ (yF H_least_place hr zM (aN (zb 2) zd)) (aL (xr (aN (zb 1) zd)) zd)))))))
theorem z9q(F:Fun K "by_all" "by_all" z1X f fd)(hm:mg "by_all"=some (.ref f))(H_least_place:Has P w K mg base CX0 "least_place" 1 Pg.zZ)(H_all_but:Has P w K mg base CX0 "all_but" 1 Pg.xu):Has P w K mg base CX0 "by_all" 2 Pg.uq:= (yk F hm (F.binds (ps:=["lot"]) (by trivial)) z5N rfl λcdv A outer s H E hr hc=> have hu:=hr.units;(zg (yG 1 z5N.nd (yF H_least_place hr zM (aN (zb 0) zd))) (zp (yf (wO (aN (zb 1) (aQ (yF H_all_but hr zM (aN (zb 0) (aN (zb 1) zd))) zd)))))))
theorem z73(F:Fun K "by_turn" "by_turn" z0B f fd)(hm:mg "by_turn"=some (.ref f))(H_all_but:Has P w K mg base CX0 "all_but" 1 Pg.xu):Has P w K mg base CX0 "by_turn" 2 Pg.wJ:= (yk F hm (F.binds (ps:=["lot"]) (by trivial)) z9s rfl λcdv A outer s H E hr hc=> have hu:=hr.units;(zg (z1d (yy (z70 hu) (z0E (zb 0) zj) zj) (zp (yf (wO (aK zj (aL (xr zd) zd))))) yQ) (zp (yf (wO (aK zj (aQ (yF H_all_but hr zM (aN (zb 0) (aK zj zd))) zd)))))))
theorem z3l(F:Fun K "want_rule" "want_rule" uo f fd)(hm:mg "want_rule"=some (.ref f))(E_NoRule:z7J K mg "NoRule")(H_is_rule:Has P w K mg base CX0 "is_rule" 1 Pg.yC):Has P w K mg base (CX1 P w) "want_rule" 2 Pg.yd:= (wP F hm (F.binds (ps:=["thing"]) (by trivial)) z12 rfl λcdv A outer s H E hr hc=> have hu:=hr.units;(zp (z1d (z0t (kU (yF H_is_rule hr z99 (aN (zb 0) zd)))) (zp (z0g E_NoRule jv hc (by rfl))) yQ)))
theorem z58(F:Fun K "want_rule" "want_rule" uo f fd)(hm:mg "want_rule"=some (.ref f))(H_is_rule:Has P w K mg base CX0 "is_rule" 1 Pg.yC):Has P w K mg base CX0 "want_rule" 2 Pg.yH:= (yk F hm (F.binds (ps:=["thing"]) (by trivial)) z12 rfl λcdv A outer s H E hr hc=> have hu:=hr.units;(zp (z1d (z0t (kU (yF H_is_rule hr zM (aN (zb 0) zd)))) (zp z6U) yQ)))
theorem z59(F:Fun K "undivided" "undivided" jh f fd)(hm:mg "undivided"=some (.ref f))(H_numbers_leaving:Has P w K mg base CX0 "numbers_leaving" 1 Pg.yB):Has P w K mg base CX0 "undivided" 2 Pg.wA:= (yk F hm (F.binds (ps:=["lot","by","most"]) (by trivial)) wH rfl λcdv A outer s H E hr hc=> have hu:=hr.units;(zg (z1d (yy (z70 hu) (z0E (zb 0) (zb 1)) zj) (zp (yf (xr (aN (zb 0) zd)))) yQ) (zg (yG 3 wH.nd (xr (aT (wO zd) zd))) (zg (z7k _aZ hc (ziS (by rfl) T.f10 (aN (zb 0) zd)) (z3F 4 5 hc wH.nd) (zg (yG 6 wH.nd (zhp (yy (z70 hu) (zb 4) (zb 1)) (xr (aN (zb 5) zd)) (yF H_numbers_leaving hr zM (aN (zb 5) (aS (z0E (zb 0) (zb 1)) (aN (zb 2) zd)))))) (zp (zbh 3 ["numbers","ahead","greater"] [some 6,none,none] 1 2 wH.nd hc (z3t (zb 3)) (λ_ _ _=>yJ (i:=1) zli (by rfl) (by first | exact Or.inl rfl | exact Or.inr rfl)) (λ_ _ _=>yJ (i:=2) zli (by rfl) (by first | exact Or.inl rfl | exact Or.inr rfl)) (λ_ _ _=>(z3t (zb 0))) (λ_ _ _=>(zQ xp (zb 1) (wO (aN (zb 2) zd)))))))) (zp (yf (zb 3)))))))
theorem z5q (F:Fun K "_law_lot" "_law_lot" ky f fd) (hm:mg "_law_lot"=some (.ref f)) (H__law_take:Has P w K mg base CX0 "_law_take" 1 Pg.zm):Has P w K mg base CX0 "_law_lot" 2 Pg.xZ:= (yk F hm (F.binds (ps:=["_law_pot_here","_law_size","_law_most"]) (by trivial)) vz rfl λcdv A outer s H E hr hc=> have hu:=hr.units;(zg (yG 3 vz.nd (zV (zen (by exact hc)) (by rfl) T.f16 z6h (aB (zQ xp (zb 2) zj) (aS (z0E (xr (aK zj (aK zj (aK zj (aB (zQ z68 zj zj) (aB (zQ z68 zj zj) zd)))))) (yF H__law_take hr zM (aN (zb 0) (aK zj zd)))) zd)) (he:=(z4A ..)))) (zg (zgf 4 ["_law_pot_here","_law_far","_law_place"] [some 0,some 3,none] vz.nd hc (km (by rfl) T.f17 (aN (zb 1) zd)) (λ_ _ _=>yJ (i:=2) zlR (by rfl) (by first | exact Or.inl rfl | exact Or.inr rfl)) (ux 2 (by rfl)) (λ_ _ _=>z1R) (λ_ _ _=>(yF H__law_take hr zM (aN (zb 0) (aN (zb 1) zd))))) (zg (yG 5 vz.nd (yF H__law_take hr zM (aN (zb 0) (aK zj zd)))) (zg (zkT 6 7 hc vz.nd (aQ (yF H__law_take hr zM (aN (zb 0) (aN (zb 1) zd))) (aQ (yF H__law_take hr zM (aN (zb 0) (aN (zb 1) zd))) zd))) (zg (z1d (yy (z70 hu) (zb 5) zj) (zp (z8s zj (zb 4) (zb 6))) yQ) (zg (z1d (yy (z70 hu) (zb 5) zj) (zp (z8s (z0E (zb 4) (zb 7)) (zb 4) (zb 6))) yQ) (zg (z1d (yy (z70 hu) (zV (z24 (by exact hc)) (by rfl) T.f15 z0F (aN (zb 4) zd) (he:=(zC ..))) zj) (zp (z8s (zQ xp zj (yF H__law_take hr zM (aN (zb 0) (aB (zQ zd6 (zb 3) zj) zd)))) (zb 4) (zb 7))) yQ) (zp (yf (z4n z7E (by rfl) T.f20 kS (aN (zb 4) zd) (he:=(zC ..))))))))))))).tidy
theorem z2h (F:Fun K "_law_no_lot" "_law_no_lot" uE f fd) (hm:mg "_law_no_lot"=some (.ref f)) (H__law_take:Has P w K mg base CX0 "_law_take" 1 Pg.zm):Has P w K mg base CX0 "_law_no_lot" 2 Pg.xJ:= (yk F hm (F.binds (ps:=["_law_pot_here","_law_lot_here"]) (by trivial)) wE rfl λcdv A outer s H E hr hc=> have hu:=hr.units;(zg (yG 2 wE.nd (yF H__law_take hr zM (aN (zb 0) (aQ (zV z0k (by rfl) T.f13 uM (aN (zb 1) zd) (he:=(zC ..))) zd)))) (zg (yG 3 wE.nd (z0E (xr (aU (z4x zj) (aK z9w (aK z7v (aK yt (aT (wO (aK zj zd)) (aK z9w (aL (xr (aK zj zd)) zd)))))))) (yF H__law_take hr zM (aN (zb 0) (aK zj zd))))) (zg (yG 4 wE.nd (xr (aB (zQ xp (zQ xp (wx (zb 1) uQ (uw (zb 2))) (wO (aN (zb 3) zd))) (wx (zb 1) (uw (zQ xp (zb 2) zj)) uQ)) (aB (zQ ziY (wO (aK zj zd)) (zV z0k (by rfl) T.f13 uM (aN (zb 1) zd) (he:=(zC ..)))) (aQ (z4n zhx (by rfl) T.f14 zfc (aN (zb 1) zd) (he:=(zC ..))) (aS (wx (zQ xp (zQ xp (zb 1) (zb 1)) (zb 1)) uQ (uw zj)) (aS (wx (zb 1) uQ (uw zj)) (aT (wO zd) (aK z7v zd))))))))) (zp (yf (z0E (zQ xp (zb 4) (xr (aK zj (aK yt (uN zh6 (aT (wO (aN (zb 1) zd)) zd) (by rfl)))))) (yF H__law_take hr zM (aN (zb 0) (aK zj zd))))))))))
theorem z8T (F:Fun K "is_lot" "is_lot" z2V f fd) (hm:mg "is_lot"=some (.ref f)) (H_has_size:Has P w K mg base CX0 "has_size" 1 Pg.ym) (H_are_wholes:Has P w K mg base CX0 "are_wholes" 2 Pg.yg):Has P w K mg base CX0 "is_lot" 3 Pg.zS:= (yk F hm (F.binds (ps:=["thing"]) (by trivial)) zal rfl λcdv A outer s H E hr hc=> have hu:=hr.units;(zg (z1d (RW.rt (zgS (z0t (kU (yF H_has_size hr zM (aN (zb 0) zd)))) (z9b (z0t (kU (yF H_are_wholes hr zM (aN (zb 0) (aQ (zV z0k (by rfl) T.f13 uM (aN (zb 0) zd) (he:=(zC ..))) zd)))))))) (zp (yf z9w)) yQ) (zp (yf (z9r (z1N zln (zV (ze3 (by exact hc)) (by rfl) T.f16 z6h (aN (zb 0) zd) (he:=(zC ..))) zj) (z9h (z1N zlr (zV (z24 (by exact hc)) (by rfl) T.f15 z0F (aN (zb 0) zd) (he:=(zC ..))) zj)))))))
theorem z5l (F:Fun K "division" "division" ku f fd) (hm:mg "division"=some (.ref f)) (T_RULES:zfy P w K mg "RULES" qw) (H_by_next:Has P w K mg base CX0 "by_next" 2 Pg.wI) (H_by_least:Has P w K mg base CX0 "by_least" 2 Pg.xD) (H_by_all:Has P w K mg base CX0 "by_all" 2 Pg.uq) (H_by_turn:Has P w K mg base CX0 "by_turn" 2 Pg.wJ):Has P w K mg base CX0 "division" 3 Pg.xo:= (yk F hm (F.binds (ps:=["rule","lot"]) (by trivial)) kE rfl λcdv A outer s H E hr hc=> have hu:=hr.units;(zg (yG 2 kE.nd (zjU T_RULES (by rfl) (zb 0) (λ_ _=>rfl))) (zg (z9V (zga (n:=2) 2 (uU (Has.mono H_by_next (by decide)) (uU (Has.mono H_by_least (by decide)) (uU (Has.mono H_by_all (by decide)) (uU (Has.mono H_by_turn (by decide)) z7U)))) (hr.mono (by decide)) zM (aN (zb 1) zd) (he:=(zC ..))) (z3F 3 4 hc kE.nd)) (zp (yf (wO (aN (zb 3) (aO (jb ["divided","lot","by","at"] [some 4,some 1,some 3,none] (by exact hc) (km (by rfl) T.f17 (aQ (zV z0k (by rfl) T.f13 uM (aN (zb 1) zd) (he:=(zC ..))) zd)) (λ_ _ _=>yJ (i:=3) zlM (by rfl) (by first | exact Or.inl rfl | exact Or.inr rfl)) (ux 3 (by rfl)) (λ_ _ _=>z1R) (λ_ _ _=>(zhp (yy zlO (zb 3) (zb 0)) (zQ zeq (z0E (zb 1) (zb 3)) (z0E (zb 1) (zb 2))) zj))) zd))))))))
theorem z2v (F:Fun K "maybe_ahead" "maybe_ahead" uB f fd) (hm:mg "maybe_ahead"=some (.ref f)) (H_one_greater:Has P w K mg base CX0 "one_greater" 1 Pg.qA) (H_undivided:Has P w K mg base CX0 "undivided" 2 Pg.wA):Has P w K mg base CX0 "maybe_ahead" 3 Pg.xU:= (yk F hm (F.binds (ps:=["rule","lot","most"]) (by trivial)) z3o rfl λcdv A outer s H E hr hc=> have hu:=hr.units;(zg (z1d (yy (z70 hu) (zb 0) yt) (zp (yf (yF H_undivided hr zM (aB (zQ xp (wx (zb 1) (uw (z4x zj)) uQ) (wx (zb 1) uQ (uw (z4x zj)))) (aK zj (aN (zb 2) zd))) (he:=(z4A ..))))) yQ) (zg (z1d (yy (z70 hu) (zb 0) yt) (zp (yf (yF H_undivided hr zM (aN (zb 1) (aQ (z50 (zb 1) (zV (z24 (by exact hc)) (by rfl) T.f15 z0F (aN (zb 1) zd) (he:=(zC ..)))) (aN (zb 2) zd)))))) yQ) (zp (yf (yF H_one_greater hr zM (aN (zb 1) (aN (zb 2) zd))))))))
theorem z4K(F:Fun K "want_lot" "want_lot" qb f fd)(hm:mg "want_lot"=some (.ref f))(E_NoLot:z7J K mg "NoLot")(H_is_lot:Has P w K mg base CX0 "is_lot" 3 Pg.zS):Has P w K mg base (CX1 P w) "want_lot" 4 Pg.xC:= (wP F hm (F.binds (ps:=["thing"]) (by trivial)) z1K rfl λcdv A outer s H E hr hc=> have hu:=hr.units;(zp (z1d (z0t (kU (yF H_is_lot hr z99 (aN (zb 0) zd)))) (zp (z0g E_NoLot jv hc (by rfl))) yQ)))
theorem z6B(F:Fun K "want_lot" "want_lot" qb f fd)(hm:mg "want_lot"=some (.ref f))(H_is_lot:Has P w K mg base CX0 "is_lot" 3 Pg.zS):Has P w K mg base CX0 "want_lot" 4 Pg.yA:= (yk F hm (F.binds (ps:=["thing"]) (by trivial)) z1K rfl λcdv A outer s H E hr hc=> have hu:=hr.units;(zp (z1d (z0t (kU (yF H_is_lot hr zM (aN (zb 0) zd)))) (zp z6U) yQ)))
theorem z39 (F:Fun K "has_ended" "has_ended" uj f fd) (hm:mg "has_ended"=some (.ref f)) (HX_want_lot:Has P w K mg base (CX1 P w) "want_lot" 4 Pg.xC):Has P w K mg base (CX1 P w) "has_ended" 5 Pg.wz:= (wP F hm (F.binds (ps:=["lot"]) (by trivial)) z13 rfl λcdv A outer s H E hr hc=> have hu:=hr.units;(zg (wc (yF HX_want_lot hr kz (aN (zb 0) zd))) (zp (jP (yf (z1N (z70 hu) (zV z0k (by rfl) T.f13 uM (aO (jb ["number"] [none] (by exact hc) (z3t (zb 0)) (λ_ _ _=>yJ (i:=0) zjK (by rfl) (by first | exact Or.inl rfl | exact Or.inr rfl)) (ux 0 (by rfl)) (λ_ _ _=>z1J (yy (zc7 hu) (zb 0) zj)) (λ_ _ _=>(zb 0))) zd) (he:=(vO ..))) zj))))))
theorem z4L (F:Fun K "has_ended" "has_ended" uj f fd) (hm:mg "has_ended"=some (.ref f)) (H_want_lot:Has P w K mg base CX0 "want_lot" 4 Pg.yA):Has P w K mg base CX0 "has_ended" 5 Pg.yo:= (yk F hm (F.binds (ps:=["lot"]) (by trivial)) z13 rfl λcdv A outer s H E hr hc=> have hu:=hr.units;(zg (wc (yF H_want_lot hr zM (aN (zb 0) zd))) (zp (yf (z1N (z70 hu) (zV z0k (by rfl) T.f13 uM (aO (jb ["number"] [none] (by exact hc) (z3t (zb 0)) (λ_ _ _=>yJ (i:=0) zjK (by rfl) (by first | exact Or.inl rfl | exact Or.inr rfl)) (ux 0 (by rfl)) (λ_ _ _=>z1J (yy (zc7 hu) (zb 0) zj)) (λ_ _ _=>(zb 0))) zd) (he:=(vO ..))) zj)))))
theorem qL(F:Fun K "want_rule_and_lot" "want_rule_and_lot" yx f fd)(hm:mg "want_rule_and_lot"=some (.ref f))(HX_want_rule:Has P w K mg base (CX1 P w) "want_rule" 2 Pg.yd)(HX_want_lot:Has P w K mg base (CX1 P w) "want_lot" 4 Pg.xC):Has P w K mg base (CX1 P w) "want_rule_and_lot" 5 Pg.zr:= (wP F hm (F.binds (ps:=["rule","lot"]) (by trivial)) vc rfl λcdv A outer s H E hr hc=> have hu:=hr.units;(zg (wc (yF HX_want_rule hr kz (aN (zb 0) zd))) (zp (wc (yF HX_want_lot hr kz (aN (zb 1) zd))))))
theorem jr(F:Fun K "want_rule_and_lot" "want_rule_and_lot" yx f fd)(hm:mg "want_rule_and_lot"=some (.ref f))(H_want_rule:Has P w K mg base CX0 "want_rule" 2 Pg.yH)(H_want_lot:Has P w K mg base CX0 "want_lot" 4 Pg.yA):Has P w K mg base CX0 "want_rule_and_lot" 5 Pg.zI:= (yk F hm (F.binds (ps:=["rule","lot"]) (by trivial)) vc rfl λcdv A outer s H E hr hc=> have hu:=hr.units;(zg (wc (yF H_want_rule hr zM (aN (zb 0) zd))) (zp (wc (yF H_want_lot hr zM (aN (zb 1) zd))))))
theorem z3b(F:Fun K "want_step" "want_step" uz f fd)(hm:mg "want_step"=some (.ref f))(E_Ended:z7J K mg "Ended")(HX_has_ended:Has P w K mg base (CX1 P w) "has_ended" 5 Pg.wz)(HX_want_rule_and_lot:Has P w K mg base (CX1 P w) "want_rule_and_lot" 5 Pg.zr):Has P w K mg base (CX1 P w) "want_step" 6 Pg.qB:= (wP F hm (F.binds (ps:=["rule","lot"]) (by trivial)) z17 rfl λcdv A outer s H E hr hc=> have hu:=hr.units;(zg (wc (yF HX_want_rule_and_lot hr kz (aN (zb 0) (aN (zb 1) zd)))) (zp (z1d (kU (yF HX_has_ended hr kz (aN (zb 1) zd))) (zp (z0g E_Ended jv hc (by rfl))) yQ))))
theorem z5i(F:Fun K "want_step" "want_step" uz f fd)(hm:mg "want_step"=some (.ref f))(H_has_ended:Has P w K mg base CX0 "has_ended" 5 Pg.yo)(H_want_rule_and_lot:Has P w K mg base CX0 "want_rule_and_lot" 5 Pg.zI):Has P w K mg base CX0 "want_step" 6 Pg.xj:= (yk F hm (F.binds (ps:=["rule","lot"]) (by trivial)) z17 rfl λcdv A outer s H E hr hc=> have hu:=hr.units;(zg (wc (yF H_want_rule_and_lot hr zM (aN (zb 0) (aN (zb 1) zd)))) (zp (z1d (kU (yF H_has_ended hr zM (aN (zb 1) zd))) (zp z6U) yQ))))
theorem z9T (F:Fun K "step" "step" z4p f fd) (hm:mg "step"=some (.ref f)) (H_moved:Has P w K mg base CX0 "moved" 1 Pg.qP) (H_division:Has P w K mg base CX0 "division" 3 Pg.xo) (HX_want_step:Has P w K mg base (CX1 P w) "want_step" 6 Pg.qB):Has P w K mg base (CX1 P w) "step" 7 Pg.X_step:= (wP F hm (F.binds (ps:=["rule","lot"]) (by trivial)) z0m rfl λcdv A outer s H E hr hc=> have hu:=hr.units;(zg (wc (yF HX_want_step hr kz (aN (zb 0) (aN (zb 1) zd)))) (zg (z9V (yF H_division hr z99 (aN (zb 0) (aN (zb 1) zd))) (z3F 2 3 hc z0m.nd)) (zg (yG 4 z0m.nd (z4n z7E (by rfl) T.f20 kS (aO (jb ["lot","by","number","quotient"] [some 1,some 2,none,none] (by exact hc) (zh9 (by rfl) T.f21 (aN (zb 1) (aN (zb 3) zd))) (λ_ _ _=>z8q 2 3 (by exact hc) zlh) (z7L 2 3 (by decide) (by rfl) (by rfl)) (λ_ _ _=>z1R) (λ_ _ _=>(zQ zd6 (zb 2) (zQ z2n (zb 3) (z0E (zb 0) (zb 1)))))) zd) (he:=(vO ..)))) (zp (jP (yf (yF H_moved hr zM (aN (zb 0) (aN (zb 4) zd))))))))))
theorem zdE (F:Fun K "step" "step" z4p f fd) (hm:mg "step"=some (.ref f)) (H_moved:Has P w K mg base CX0 "moved" 1 Pg.qP) (H_division:Has P w K mg base CX0 "division" 3 Pg.xo) (H_want_step:Has P w K mg base CX0 "want_step" 6 Pg.xj):Has P w K mg base CX0 "step" 7 Pg.M_step:= (yk F hm (F.binds (ps:=["rule","lot"]) (by trivial)) z0m rfl λcdv A outer s H E hr hc=> have hu:=hr.units;(zg (wc (yF H_want_step hr zM (aN (zb 0) (aN (zb 1) zd)))) (zg (z9V (yF H_division hr zM (aN (zb 0) (aN (zb 1) zd))) (z3F 2 3 hc z0m.nd)) (zg (yG 4 z0m.nd (z4n z7E (by rfl) T.f20 kS (aO (jb ["lot","by","number","quotient"] [some 1,some 2,none,none] (by exact hc) (zh9 (by rfl) T.f21 (aN (zb 1) (aN (zb 3) zd))) (λ_ _ _=>z8q 2 3 (by exact hc) zlh) (z7L 2 3 (by decide) (by rfl) (by rfl)) (λ_ _ _=>z1R) (λ_ _ _=>(zQ zd6 (zb 2) (zQ z2n (zb 3) (z0E (zb 0) (zb 1)))))) zd) (he:=(vO ..)))) (zp (yf (yF H_moved hr zM (aN (zb 0) (aN (zb 4) zd)))))))))
theorem z0l (F:Fun K "steps_of_all" "steps_of_all" vS f fd) (hm:mg "steps_of_all"=some (.ref f)) (H_tuples_between:Has P w K mg base CX0 "tuples_between" 1 Pg.yb) (H_has_ended:Has P w K mg base CX0 "has_ended" 5 Pg.yo) (H_step:Has P w K mg base CX0 "step" 7 Pg.M_step):Has P w K mg base (CX1 P w) "steps_of_all" 8 Pg.wF:= (wP F hm (F.binds (ps:=["rule","size","most"]) (by trivial)) yn rfl λcdv A outer s H E hr hc=> have hu:=hr.units;(zg (jP (yG 3 yn.nd zir)) (zg (jP (z7k _aZ hc (z3t (wx (yF H_tuples_between hr zM (aN (zb 1) (aK zj (aN (zb 2) zd)))) (uw zj) uQ)) (z42 4 yn.nd) (zg (yG 5 yn.nd (zbz (aN (zb 4) zd))) (zg (zft _aZ (RW.rt (w_and (yy (zcX hu) (z0E (zb 5) (z4x zj)) (zb 3)) (zef (z0t (kU (yF H_has_ended hr zM (aS (z0E (zb 5) (z4x zj)) zd) (he:=(z8e ..)))))))) (zp (wc (z55 (zb 5) (yF H_step hr zM (aN (zb 0) (aS (z0E (zb 5) (z4x zj)) zd))))))) (zg (yG 6 yn.nd (zff hu (zb 3) (z0E (zb 5) (z4x zj)) zj)) (zp (z7k _aZ hc (z3t (zid (zb 5))) (z42 7 yn.nd) (zg (zhq hu (zb 6) (zb 3) (zb 7)) (zp (zkL 6 yn.nd zj)))))))))) (zp (jP (yf (zb 3)))))))
theorem z48(F:Fun K "comes_to" "comes_to" kC f fd)(hm:mg "comes_to"=some (.ref f))(HX_has_ended:Has P w K mg base (CX1 P w) "has_ended" 5 Pg.wz)(HX_step:Has P w K mg base (CX1 P w) "step" 7 Pg.X_step):Has P w K mg base (CX1 P w) "comes_to" 8 Pg.vo:= (wP F hm (F.binds (ps:=["rule","ahead","lot"]) (by trivial)) z7r rfl λcdv A outer s H E hr hc=> have hu:=hr.units;(zp (yf (z9r (zhO (yF HX_has_ended hr kz (aN (zb 1) zd))) (z9h (z1N (z70 hu) (yF HX_step hr kz (aN (zb 0) (aN (zb 1) zd))) (zb 2)))))))
theorem z5D (F:Fun K "lots_to" "lots_to" z0j f fd) (hm:mg "lots_to"=some (.ref f)) (E_TooMany:z7J K mg "TooMany") (H_maybe_ahead:Has P w K mg base CX0 "maybe_ahead" 3 Pg.xU) (HX_want_number:Has P w K mg base (CX1 P w) "want_number" 2 Pg.zD) (HX_want_rule_and_lot:Has P w K mg base (CX1 P w) "want_rule_and_lot" 5 Pg.zr) (HX_comes_to:Has P w K mg base (CX1 P w) "comes_to" 8 Pg.vo):Has P w K mg base (CX1 P w) "lots_to" 9 ye:= (wP F hm (F.binds (ps:=["rule","lot","most"]) (by trivial)) z0v rfl λcdv A outer s H E hr hc=> have hu:=hr.units;(zg (wc (yF HX_want_rule_and_lot hr kz (aN (zb 0) (aN (zb 1) zd)))) (zg (wc (yF HX_want_number hr kz (aN (zb 2) (aK zj (aN (zeH (by rfl) T.f1) zd))))) (zg (jP (yG 3 z0v.nd (zbz zd))) (zg (z7k PassesOwn.leaving hc (z3t (yF H_maybe_ahead hr z99 (aN (zb 0) (aN (zb 1) (aN (zb 2) zd))))) (z42 4 z0v.nd) (zg (z1d (RW.rt (w_and (yy zeK (zV (z24 (by exact hc)) (by rfl) T.f15 z0F (aN (zb 4) zd) (he:=(zC ..))) (zb 2)) (zef (kU (yF HX_comes_to hr kz (aN (zb 0) (aN (zb 4) (aN (zb 1) zd)))))))) (zp (jP (wc (z55 (zb 3) (zb 4))))) yQ) (zp (z1d (yy zlr (zV z0k (by rfl) T.f13 uM (aN (zb 3) zd) (he:=(zC ..))) (zeH (by rfl) T.f2)) (zp (z0g E_TooMany jv hc (by rfl))) yQ)))) (zp (jP (yf (zV zdl (by rfl) T.f18 z9U (aN (zb 3) zd) (he:=(zC ..)))))))))))
theorem z2Q (F:Fun K "least_with" "least_with" qm f fd) (hm:mg "least_with"=some (.ref f)) (HX_want_number:Has P w K mg base (CX1 P w) "want_number" 2 Pg.zD) (HX_want_size:Has P w K mg base (CX1 P w) "want_size" 2 Pg.zX) (HX_want_rule:Has P w K mg base (CX1 P w) "want_rule" 2 Pg.yd) (HX_steps_of_all:Has P w K mg base (CX1 P w) "steps_of_all" 8 Pg.wF):Has P w K mg base (CX1 P w) "least_with" 9 Pg.zU:= (wP F hm (F.binds (ps:=["rule","size","steps"]) (by trivial)) ql rfl λcdv A outer s H E hr hc=> have hu:=hr.units;(zg (wc (yF HX_want_rule hr kz (aN (zb 0) zd))) (zg (wc (yF HX_want_size hr kz (aN (zb 1) (aN (zeH (by rfl) T.f5) zd)))) (zg (wc (yF HX_want_number hr kz (aN (zb 2) (aK zj (aN (zeH (by rfl) T.f6) zd))))) (zg (yG 3 ql.nd (yF HX_steps_of_all hr kz (aN (zb 0) (aN (zb 1) (aN (zeH (by rfl) T.f3) zd))))) (zg (jP (zf7 4 ["steps","many","lot"] [some 2,some 3,none] ql.nd hc (zjT (zb 3)) (λ_ _ _=>yJ (i:=2) zm5 (by rfl) (by first | exact Or.inl rfl | exact Or.inr rfl)) (ux 2 (by rfl)) (λ_ _ _=>z1J (yy (z70 hu) (zik hu (zb 1) (zb 2)) (zb 0))) (λ_ _ _=>(wO (aQ (zV (z24 (by exact hc)) (by rfl) T.f15 z0F (aN (zb 2) zd) (he:=(zC ..))) (aN (zb 2) zd)))))) (zp (jP (yf (zhp (zkH (zb 4)) (z0E (zV (ziH (by exact hc) hu) (by rfl) T.f16 z6h (aN (zb 4) zd) (he:=(zC ..))) zj) z7v))))))))))
theorem z4I (F:Fun K "_law_told" "_law_told" qR f fd) (hm:mg "_law_told"=some (.ref f)) (KS:∀c∈rsX,zjq K mg c "DrawError") (H__law_kind_of:zju P w K mg base CX0 "_law_kind_of" 1 zJ) (HX_lots_to:Has P w K mg base (CX1 P w) "lots_to" 9 ye) (HX_least_with:Has P w K mg base (CX1 P w) "least_with" 9 Pg.zU):Has P w K mg base CX0 "_law_told" 10 zf:= (yk F hm (F.binds (ps:=["_law_way","_law_rule","_law_one","_law_other"]) (by trivial)) z0O rfl λcdv A outer s H E hr hc=> have hu:=hr.units;(zg (zh4 rfl rfl rfl KS (by rfl) z0O.nd (by rfl) (by rfl) (λpn xe E1 hp=>(zp (wc (zgK (n:=9) (uU (Has.mono HX_lots_to (by decide)) (uU (Has.mono HX_least_with (by decide)) z7U)) (hr.mono (by decide)) hp (z0E (xr (uN (ziR HX_lots_to (by rfl)) (uN (ziR HX_least_with (by rfl)) zd (zC ..)) (zC ..))) (zb 0)) (aN (zb 1) (aN (zb 2) (aN (zb 3) zd))) (he:=(zC ..)))))) (λe pn=>(zp (yf (zgo H__law_kind_of (zkJ (hr.h.mono (by decide))) zM (by rfl) (aN (zb 4) zd) (he:=(zC ..))))))) (zp (yf yt)))).tidy
theorem z8L (F:Fun K "law" "law" z3z f fd) (hm:mg "law"=some (.ref f)) (H__law_cell_at:Has P w K mg base CX0 "_law_cell_at" 1 Pg.yS) (H__law_pot:Has P w K mg base CX0 "_law_pot" 1 Pg.vn) (H__law_take:Has P w K mg base CX0 "_law_take" 1 Pg.zm) (H__law_rules:Has P w K mg base CX0 "_law_rules" 1 Pg.yE) (H__law_lot:Has P w K mg base CX0 "_law_lot" 2 Pg.xZ) (H__law_no_lot:Has P w K mg base CX0 "_law_no_lot" 2 Pg.xJ) (H__law_told:Has P w K mg base CX0 "_law_told" 10 zf):z4y P w K mg base CX0 11 f fd ["_law_script"] (zcu ⟨mg,K⟩ zg3):= zhK F ur rfl λcdv A outer s H E hr hc=>by
  have hu:=hr.units;refine zg ?_ ?_
  ·refine z7k _aZ hc (km (by rfl) T.f17 (aQ (zV (zji (by exact hc)) (by rfl) T.f15 z0F (aK zj (aQ (zV (zen (by exact hc)) (by rfl) T.f16 z6h (aQ (zV z0k (by rfl) T.f13 uM (aN (zb 0) zd) (he:=(zC ..))) (aK zj zd)) (he:=(z1E ..))) zd)) (he:=(z3X ..))) zd)) (z42 1 ur.nd) ?_;refine zg ?_ ?_;·exact (yG 2 ur.nd (yF H__law_pot hr zM (aQ (yF H__law_cell_at hr zM (aN (zb 0) (aN (zb 1) zd))) zd) (he:=(z1E ..))))
   refine zg ?_ ?_;·exact (yG 3 ur.nd (z0E (zfq H__law_rules (hr.mono (by decide)) zM (by rfl)) (yF H__law_take hr zM (aN (zb 2) (aK zj zd)))))
   refine zg ?_ ?_;·exact (yG 4 ur.nd (z0E (xr (aQ (zeU (zb 3)) (aS (zcr (zb 3) (uw zj)) (aB (zQ zhe (zb 3) yt) (aK yt (aK z7v (aK zj (aT (wO (aN (zb 3) zd)) (aL (xr (aN (zb 3) zd)) (aK z9w (uN zh6 zd (by rfl)))))))))))) (yF H__law_take hr zM (aN (zb 2) (aK zj zd)))))
   refine zg ?_ ?_;·exact (yG 5 ur.nd (yF H__law_lot hr zM (aN (zb 2) (aB (zQ xp zj (yF H__law_take hr zM (aN (zb 2) (aK zj zd)))) (aB (zQ z68 zj zj) zd)))))
   refine zg ?_ ?_;·exact (yG 6 ur.nd (yF H__law_no_lot hr zM (aN (zb 2) (aN (zb 5) zd))))
   refine zg ?_ ?_
   ·refine yG _ ?_ ?_;·exact ur.nd
    refine z0E ?_ ?_
    ·refine xr ?_;refine aK ?_ ?_;·exact zj
     refine aK ?_ ?_;·exact zj
     refine aU ?_ ?_;·exact (z4x zj)
     refine aK ?_ ?_;·exact z9w
     refine aK ?_ ?_;·exact z7v
     refine aK ?_ ?_;·exact yt
     refine aT ?_ ?_;·exact (wO (aK zj zd))
     exact aB (zQ z68 zj zj) zd
    ·exact (yF H__law_take hr zM (aN (zb 2) (aK zj zd)))
   refine zg ?_ ?_;·exact (yG 8 ur.nd (xr (aQ (yF H__law_told hr zM (aK zj (aN (zb 4) (aN (zb 6) (aN (zb 7) zd))))) (aQ (yF H__law_told hr zM (aK zj (aN (zb 3) (aN (zb 6) (aN (zb 7) zd))))) (aQ (yF H__law_told hr zM (aK zj (aN (zb 3) (aN (zb 5) (aN (zb 7) zd))))) zd)))))
   refine zg ?_ ?_;·exact (yG 8 ur.nd (zQ xp (zb 8) (xr (aQ (yF H__law_told hr zM (aK zj (aN (zb 4) (aN (zb 5) (aK zj zd))))) (aQ (yF H__law_told hr zM (aK zj (aN (zb 3) (aN (zb 6) (aK zj zd))))) zd)))))
   refine zg ?_ ?_
   ·refine z1d (yy (zc7 hu) (zb 8) (xr (aK yt (aK yt (aK yt (aK yt (aK yt zd))))))) ?_ ?_
    ·refine zp ?_;exact (yf z9w)
    ·exact yQ
   refine zg ?_ ?_
   ·refine yG _ ?_ ?_;·exact ur.nd
    refine z0E ?_ ?_
    ·refine xr ?_;refine aK ?_ ?_;·exact zj
     refine aK ?_ ?_;·exact zj
     refine aK ?_ ?_;·exact zj
     refine aK ?_ ?_;·exact z9w
     refine aK ?_ ?_;·exact z7v
     refine aK ?_ ?_;·exact yt
     refine aT ?_ ?_;·exact (wO (aK zj zd))
     exact aB (zQ z68 zj zj) zd
    ·exact (yF H__law_take hr zM (aN (zb 2) (aK zj zd)))
   refine zg ?_ ?_
   ·refine yG _ ?_ ?_;·exact ur.nd
    refine z0E ?_ ?_
    ·refine xr ?_;refine aK ?_ ?_;·exact zj
     refine aU ?_ ?_;·exact (z4x zj)
     refine aK ?_ ?_;·exact z9w
     refine aK ?_ ?_;·exact z7v
     refine aK ?_ ?_;·exact yt
     refine aL ?_ ?_;·exact (xr (aK zj zd))
     exact aB (zQ z68 zj zj) zd
    ·exact (yF H__law_take hr zM (aN (zb 2) (aK zj zd)))
   refine zg ?_ ?_;·exact (yG 8 ur.nd (xr (aQ (yF H__law_told hr zM (aK zj (aN (zb 4) (aN (zb 9) (aN (zb 10) zd))))) (aQ (yF H__law_told hr zM (aK zj (aN (zb 3) (aN (zb 9) (aN (zb 10) zd))))) (aQ (yF H__law_told hr zM (aK zj (aN (zb 3) (aK zj (aN (zb 10) zd))))) zd)))))
   refine zg ?_ ?_;·exact (yG 8 ur.nd (zQ xp (zb 8) (xr (aQ (yF H__law_told hr zM (aK zj (aN (zb 4) (aK zj (aK zj zd))))) (aQ (yF H__law_told hr zM (aK zj (aN (zb 3) (aN (zb 9) (aK zj zd))))) (aQ (yF H__law_told hr zM (aK zj (aN (zb 3) (aK zj (aK zj zd))))) zd))))))
   refine zp ?_;refine z1d (yy (zc7 hu) (zb 8) (xr (aK yt (aK yt (aK yt (aK yt (aK yt (aK yt zd)))))))) ?_ ?_
   ·refine zp ?_;exact (yf z9w)
   ·exact yQ
  refine zg ?_ ?_
  ·refine z1d (RW.rt (zgS (yy (zc7 hu) (yF H__law_told hr zM (aK zj (aK yt (aT (wO (aK zj (aK zj (aK zj (aK zj zd))))) (aK zj zd))))) yt) (z9b (yy (zc7 hu) (yF H__law_told hr zM (aK zj (aK yt (aT (wO (aK zj (aK zj (aK zj (aK zj zd))))) (aK zj zd))))) yt)))) ?_ ?_
   ·refine zp ?_;exact (yf z9w)
   ·exact yQ
  refine zp ?_;exact (yf (z9r (z1N (z70 hu) (yF H__law_told hr zM (aK zj (aK yt (aT (wO (aK zj (aK zj (aK zj zd)))) (aK zj zd))))) yt) (z9h (z1N (z70 hu) (yF H__law_told hr zM (aK zj (aK yt (aK zj (aK zj zd))))) yt))))
end
end K73
namespace Pp
open L2 Dd
open Pm Pg
theorem zav(s:Sto)(a b:List D):(s++[a]).set s.length b=s++[b]:=by rw[List.set_append_right _ _ (by omega)];simp
open Pn
theorem z3P{x a b:Int}(h1:a<=x)(h2:x<=b)(s:Sto):xR [.int x,.int a,.int b] s=.ok .non s:=by
 have w:zY [.int x] s=.ok (.bl true) s:=qC (by rfl) s;have st:zt ["thing","least","most"] [.int x,.int a,.int b]=[some (.int x),some (.int a),some (.int b)]:=rfl;simp only[xR,Mof,jV,st,_g,_i,_G];rw[qS,zd4];·rfl
 ·refine zgt (zg7 (vN ?_)) (zg7 (vN ?_));·rw[ud (x:=.int x) (by simp)];exact w
  ·simp[h1,h2]
abbrev T39:Int:=1000000000000000000000000000000000000000
theorem t39:T39<2 ^ 2000:=by decide +kernel
theorem zm7{r:Int}(s:Sto)(h0:0<=r)(h1:r<5):∃far:Int,dIx (.lst [.int 4,.int 31,.int 1001,.int 1000000000000000,.int T39]) (.int r) s=.ok (.int far) s/\4<=far/\far<=T39:=by
 obtain⟨k,rfl⟩:=_bS h0;have:k=0\/k=1\/k=2\/k=3\/k=4:=by omega
 rcases this with rfl | rfl | rfl | rfl | rfl;·exact⟨4,rfl,by decide,by decide⟩
 ·exact⟨31,rfl,by decide,by decide⟩
 ·exact⟨1001,rfl,by decide,by decide⟩
 ·exact⟨1000000000000000,rfl,by decide,by decide⟩
 ·exact⟨T39,rfl,by decide,by decide⟩
theorem ints_of:∀ys:List D,(∀y∈ys,∃x:Int,y=.int x/\0<=x/\x<=T39)->∃xs:List Int,ys=iL xs/\∀x∈xs,0<=x/\x<=T39
 | [],_=>⟨[],rfl,by simp⟩ | y::ys,h=>by
  obtain⟨x,rfl,hx⟩:=h y (by simp);obtain⟨xs,rfl,hs⟩:=ints_of ys λz hz=>h z (by simp[hz]);exact⟨x::xs,rfl,λz hz=>by rcases _q.mp hz with rfl | hz;exact hx;exact hs z hz⟩
abbrev EvL(l:Nat)(n:Nat)(a3 a4 a5 a6 a7:Option D):Ev:=[some (.loc l),some (.int n),some (.int T39),a3,a4,a5,a6,a7]
theorem zie {s:Sto} {l n:Nat} (h:Pot s l) (hsz:Sz n):∃v s',xZ [.loc l,.int n,.int T39] s=.ok (rD v) s'/\z9Q n 131 v/\uh s s' l:=by
 have hl:=h.lt;have hn:2<=n/\n<=4:=by unfold Sz at hsz;omega
 have st:zt ["_law_pot_here","_law_size","_law_most","_law_far","_law_found","_law_way","_law_at","_law_to"] [.loc l,.int n,.int T39]=EvL l n none none none none none:=rfl;obtain⟨r1,s1,e1,a1,b1,d1⟩:=jg (Z:=EvL l n none none none none none) (f:=zc 0) (g:=eC (.int 5)) (far:=5) h (by decide) (z3q (by decide)) (by simp) (by simp);obtain⟨far,ef,f0,f1⟩:=zm7 s1 a1 b1;have p1:vZ (EvL l n none none none none none) s=.ok (.nx (EvL l n (some (.int far)) none none none none)) s1:=by
  have x1:eOp vt (zc 2) (eC (.int 1)) (EvL l n none none none none none) s=.ok (.int (T39+1)) s:=by simp
  have x2:eOp dIx (ue (za (eC (.int 4)) (za (eC (.int 31)) (za (eC (.int 1001)) (za (eOp z30 (eC (.int 10)) (eC (.int 15))) (za (eOp z30 (eC (.int 10)) (eC (.int 39))) zk)))))) (zi zm (za (zc 0) (za (eC (.int 5)) zk))) (EvL l n none none none none none) s=.ok (.int far) s1:=by
   rw[wB];have:ue (za (eC (.int 4)) (za (eC (.int 31)) (za (eC (.int 1001)) (za (eOp z30 (eC (.int 10)) (eC (.int 15))) (za (eOp z30 (eC (.int 10)) (eC (.int 39))) zk))))) (EvL l n none none none none none) s=.ok (.lst [.int 4,.int 31,.int 1001,.int 1000000000000000,.int T39]) s:=by
    simp only[wo,zo,zH,z25,wB,Rb,zjH,zgr];rw[_e (by simp[cap])]
   rw[this,Rb,e1,Rb,ef]
  have x3:z7D [.int (T39+1),.int far] s1=.ok (.int far) s1:=by
   simp only[z7D];congr 2;omega
  rw[vZ,ya,xi,zo,x1,Rb,zo,x2];simp only[Rb,zH,x3];rfl
 obtain⟨ys,s2,e2,y1,y2,d2⟩:=zcl (fi:=z6T (za (zc 1) zk)) (mp:=[some 0,some 3,none]) (fg:=kb 2) (fe:=zi zm (za (zc 0) (za (zc 1) zk))) (Z:=EvL l n (some (.int far)) none none none none) (s:=s1) (s0:=s1) (λk:Nat=>D.int ((k:Nat):Int)) (λk=>[some (.loc l),some (.int far),some (.int ((k:Nat):Int))]) (λ_ s'=>uh s s' l) (λy=>∃x:Int,y=.int x/\0<=x/\x<=T39) (List.range n) (z6P (n:=n) (by omega) (by simp)) (λk _ s=>by simp) (λi k _ s' hd=>by
   obtain⟨x,s'',e,x0,x1,d⟩:=zez hd.pot (far:=far) (by omega) (Int.lt_of_le_of_lt f1 t39);exact⟨.int x,s'',by rw[call2 (x:=.loc l) (y:=.int far) (vr rfl) (vr rfl)];exact e,⟨x,rfl,x0,by omega⟩,hd.trans d⟩) (by simp[cap];omega) d1 (λy ⟨x,hx,_⟩=>by subst hx;rfl);obtain⟨xs,rfl,x2⟩:=ints_of ys y2;have n2:xs.length=n:=by simpa using y1
 have p2:vW (EvL l n (some (.int far)) none none none none) s1=.ok (.nx (EvL l n (some (.int far)) (some (.loc s.length)) none none none)) (s2++[iL xs]):=by
  rw[vW,ya,e2,Rb,d2.len];rfl
 have L2:=LS.start d2 h xs;obtain⟨way,s3,e3,a3,b3,d3⟩:=jg (Z:=EvL l n (some (.int far)) (some (.loc s.length)) none none none) (f:=zc 0) (g:=eC (.int 6)) (far:=6) L2.pot (by decide) (z3q (by decide)) (by simp) (by simp);have L3:=L2.drawn hl d3;have p3:vT (EvL l n (some (.int far)) (some (.loc s.length)) none none none) (s2++[iL xs])=.ok (.nx (EvL l n (some (.int far)) (some (.loc s.length)) (some (.int way)) none none)) s3:=by rw[vT,ya,e3];rfl
 obtain⟨at_,s4,e4,a4,b4,d4⟩:=jg (Z:=EvL l n (some (.int far)) (some (.loc s.length)) (some (.int way)) none none) (f:=zc 0) (g:=zc 1) (far:=n) L3.pot (by omega) (z3q (by omega)) (by simp) (by simp);have L4:=L3.drawn hl d4;obtain⟨to,s5,e5,a5,b5,d5⟩:=jg (Z:=EvL l n (some (.int far)) (some (.loc s.length)) (some (.int way)) none none) (f:=zc 0) (g:=zc 1) (far:=n) L4.pot (by omega) (z3q (by omega)) (by simp) (by simp);have L5:=L4.drawn hl d5;have p4:vU (EvL l n (some (.int far)) (some (.loc s.length)) (some (.int way)) none none) s3=.ok (.nx (EvL l n (some (.int far)) (some (.loc s.length)) (some (.int way)) (some (.int at_)) (some (.int to)))) s5:=by
  rw[vU,zhj,zo,e4,Rb,zo,e5];rfl
 let E:=EvL l n (some (.int far)) (some (.loc s.length)) (some (.int way)) (some (.int at_)) (some (.int to));have s5':∃s6 ys,xY E s5=.ok (.nx E) s6/\LS s l s6 ys/\(∀y∈ys,0<=y/\y<=T39)/\ys.length=n:=by
  have t:tOf (eOp dEq (zc 5) (eC (.int 0))) E s5=.ok (decide (way=0)) s5:=vN (by rw[op2 (x:=.int way) (y:=.int 0) (vr rfl) rfl,z9c]);by_cases z:way=0
  ·refine⟨_,_,?_,L5.set hl (xs.set at_.toNat 0),zbZ x2 (by omega),by simp[n2]⟩;rw[xY,z3d,t,Rb,_e (by simpa using z),jl];exact z6R (s1:=s5) (s2:=s5) (x:=0) rfl (vr rfl) (vr rfl) L5.at_ a4 (by omega)
  ·refine⟨s5,xs,?_,L5,x2,n2⟩;rw[xY,z3d,t,Rb,_j (by simpa using z)];rfl
 obtain⟨s6,ys,p5,L6,x6,n6⟩:=s5';have s7':∃s7 zs,xO E s6=.ok (.nx E) s7/\LS s l s7 zs/\(∀y∈zs,0<=y/\y<=T39)/\zs.length=n:=by
  have t:tOf (eOp dEq (zc 5) (eC (.int 1))) E s6=.ok (decide (way=1)) s6:=vN (by rw[op2 (x:=.int way) (y:=.int 1) (vr rfl) rfl,z9c]);by_cases z:way=1
  ·have hra:to.toNat<ys.length:=by omega
   have ix:=zho (d:=.int ys[to.toNat]) L6.at_ a5 (by simp[hra]);have my:=x6 ys[to.toNat] (_bb hra);refine⟨_,_,?_,L6.set hl (ys.set at_.toNat ys[to.toNat]),zbZ x6 my,by simp[n6]⟩;rw[xO,z3d,t,Rb,_e (by simpa using z),qX];exact z6R (s1:=s6) (s2:=s6) (x:=ys[to.toNat]) (by rw[op2 (x:=.loc s.length) (y:=.int to) (vr rfl) (vr rfl)];exact ix) (vr rfl) (vr rfl) L6.at_ a4 (by omega)
  ·refine⟨s6,ys,?_,L6,x6,n6⟩;rw[xO,z3d,t,Rb,_j (by simpa using z)];rfl
 obtain⟨s7,zs,p7,L7,x7,n7⟩:=s7';have ne7:zs≠[]:=λz=>by rw[z]at n7;simp at n7;omega
 have s9':∃s9 ws,wg E s7=.ok (.nx E) s9/\LS s l s9 ws/\(∀y∈ws,0<=y/\y<=T39)/\ws.length=n/\∃x∈ws,0<x:=by
  have t:=zfJ (f:=zc 4) (Z:=E) ne7 L7.at_ (vr rfl);by_cases z:maxL zs=0
  ·obtain⟨ra,sa,ea,aa,ba,da⟩:=jg (Z:=E) (f:=zc 0) (g:=eOp ze1 (zc 3) (eC (.int 1))) (far:=far-1) L7.pot (by omega) (Int.lt_trans (by omega) t39) (vr rfl) (by rw[op2 (x:=.int far) (y:=.int 1) (vr rfl) rfl];rfl);have La:=L7.drawn hl da;refine⟨_,_,?_,La.set hl (zs.set to.toNat (1+ra)),zbZ x7 (by omega),by simp[n7],1+ra,List.mem_set (by omega) _,by omega⟩;rw[wg,z3d,t,Rb,_e (by simpa using z),qE];exact z6R (s1:=sa) (s2:=sa) (x:=1+ra) (by rw[wB,z25,Rb,ea];rfl) (vr rfl) (vr rfl) La.at_ a5 (by omega)
  ·refine⟨s7,zs,?_,L7,x7,n7,z9C ne7 (λy hy=>(x7 y hy).1) z⟩;rw[wg,z3d,t,Rb,_j (by simpa using z)];rfl
 obtain⟨s9,ws,p9,L9,x9,n9,w9⟩:=s9';refine⟨ws,s9.take s.length,?_,⟨⟨hsz,n9,λx hx=>(x9 x hx).1,w9⟩,λx hx=>?_⟩,L9.fin hl⟩
 ·simp only[xZ,z78,Mof,jO,st,_g,_i,_G];rw[zq p1,zq p2,zq p3,zq p4,zq p5,zq p7,zq p9];have c:z01 [.loc s.length] s9=.ok (rD ws) s9:=by simp only[z01,zW,L9.at_]
  rw[qG,xg,ud (x:=.loc s.length) (vr rfl),c];simp only[Rb];exact zd5
 ·have b:x<=1000000000000000000000000000000000000000:=(x9 x hx).2;have:(2:Int) ^ 131=2722258935367507707706996859454145691648:=by decide
  omega
end Pp
namespace Po
open L2 Dd Pm Pg Pn
end Po
namespace Pp
open L2 Dd Pm Pg Pn
def NoL(d:D):Prop:=Kd d/\∀n v,d=rD v->¬ Lot n v
theorem NoL.other{d:D}(h:Kd d)(hn:∀xs,d≠.tup xs):NoL d:=⟨h,λn v e=>absurd e (hn _)⟩
theorem NoL.len{xs:List D}(h:∀x∈xs,(tyD x).isSome=true)(hl:xs.length<2\/4<xs.length):NoL (.tup xs):=⟨h,λn v e lt=>by
 have e':xs=iL v:=by simpa using e
 have h1:=lt.len;have h2:=lt.sz;rw[e']at hl;simp only[iL,_I]at hl;unfold Sz at h2;omega⟩
theorem NoL.odd{xs:List D}{o:D}(h:∀x∈xs,(tyD x).isSome=true)(ho:o∈xs)(hi:okI o=false):NoL (.tup xs):=⟨h,λn v e lt=>by
 have e':xs=iL v:=by simpa using e
 rw[e']at ho;obtain⟨x,hx,rfl⟩:=_J.mp ho;have:=lt.nn x hx;simp[okI]at hi;omega⟩
noncomputable def zdJ:List D:=[.int (-1),.bl true,.non,.str "1",.tup [.int 1],.bl false,.lst [.int 1]]
theorem zgE{o:D}(h:o∈zdJ):(tyD o).isSome=true/\okI o=false:=by
 simp only[zdJ,_q,_ad,_bx]at h;rcases h with rfl | rfl | rfl | rfl | rfl | rfl | rfl<;>exact⟨rfl,rfl⟩
theorem zdP {s:Sto} {l n m:Nat} {v:List Int} (h:Pot s l) (hv:z9Q n m v):∃d s',xJ [.loc l,rD v] s=.ok d s'/\NoL d/\uh s s' l:=by
 have hn:2<=v.length/\v.length<=4:=by have h1:=hv.len;have h2:=hv.sz;unfold Sz at h2;omega
 have st:∀d:D,zt ["_law_pot_here","_law_lot_here","_law_at","_law_odd","_law_some"] [.loc l,d]=[some (.loc l),some d,none,none,none]:=λd=>rfl;have gl:∀s,ub [rD v] s=.ok (.int v.length) s:=λs=>by simp[ub,zW]
 obtain⟨r1,s1,e1,a1,b1,d1⟩:=jg (Z:=[some (.loc l),some (rD v),none,none,none]) (f:=zc 0) (g:=zi ub (za (zc 1) zk)) (far:=v.length) h (by omega) (z3q (by omega)) (by simp) (by rw[ud (x:=rD v) (by simp)];exact gl s);obtain⟨k,rfl⟩:=_bS a1;have q1:vL [some (.loc l),some (rD v),none,none,none] s=.ok (.nx [some (.loc l),some (rD v),some (.int k),none,none]) s1:=by rw[vL,ya,e1];rfl
 obtain⟨r2,s2,e2,a2,b2,d2⟩:=jg (Z:=[some (.loc l),some (rD v),some (.int k),none,none]) (f:=zc 0) (g:=eC (.int 7)) (far:=7) d1.pot (by decide) (z3q (by decide)) (by simp) (by simp);have hr2:r2.toNat<zdJ.length:=by simp[zdJ];omega
 have ix2:=z5O (xs:=zdJ) (d:=zdJ[r2.toNat]) (s:=s2) a2 (by simp[hr2]);have ho:=zgE (_bb hr2);generalize zdJ[r2.toNat]=o at ix2 ho;have q2:vQ [some (.loc l),some (rD v),some (.int k),none,none] s1=.ok (.nx [some (.loc l),some (rD v),some (.int k),some o,none]) s2:=by
  have c7:(7:Nat)<=cap:=by decide
  have x1:ue (za (z3Z (eC (.int 1))) (za (eC (.bl true)) (za (eC .non) (za (eC (.str "1")) (za (qM (za (eC (.int 1)) zk)) (za (eC (.bl false)) (za (ue (za (eC (.int 1)) zk)) zk))))))) [some (.loc l),some (rD v),some (.int k),none,none] s1=.ok (.lst zdJ) s1:=by simp[cap,zdJ]
  rw[vQ,ya,wB,x1,Rb,e2,Rb,ix2];rfl
 have sk:dSl (rD v) none (some (k:Int)) s2=.ok (.tup ((iL v).take k)) s2:=z1T _ _ _;have sd1:dSl (rD v) (some ((k:Int)+1)) none s2=.ok (.tup ((iL v).drop (k+1))) s2:=z56 (iL v) (k+1) s2;have s1':dSl (rD v) none (some 1) s2=.ok (.tup ((iL v).take 1)) s2:=z1T (iL v) 1 s2;have s5':dSl (.tup (iL v++iL v++iL v)) none (some 5) s2=.ok (.tup ((iL v++iL v++iL v).take 5)) s2:=z1T (iL v++iL v++iL v) 5 s2;have lv:(iL v).length=v.length:=by simp
 have iT:∀x∈(iL v).take k,x∈iL v:=λx hx=>_aQ hx;have iW:∀x∈(iL v).drop (k+1),x∈iL v:=λx hx=>List.mem_of_mem_drop hx;have lT:((iL v).take k).length<=4:=by rw[_by];omega
 have lW:((iL v).drop (k+1)).length<=4:=by rw[_c1];omega
 generalize (iL v).take k=T at sk iT lT;generalize (iL v).drop (k+1)=W at sd1 iW lW;have ad:vt (rD v) (rD v) s2=.ok (.tup (iL v++iL v)) s2:=by rw[kQ,_e (by simp[cap];omega)]
 have ad2:vt (.tup (iL v++iL v)) (rD v) s2=.ok (.tup (iL v++iL v++iL v)) s2:=by rw[kQ,_e (by simp[cap];omega)]
 have rp:z8Z (.tup [.int 0]) (.int v.length) s2=.ok (rD (List.replicate v.length 0)) s2:=by
  rw[zf4,_e ⟨by omega,by simp,by simp[cap];omega⟩];congr 2;rw[_bs];generalize v.length=n;induction n with
  | zero=>rfl | succ n ih=>rw[_av,_aS,ih];rfl
 have gls:z9A [rD v] s2=.ok (.lst (iL v)) s2:=by simp[z9A,zW]
 let M7:List D:=[.tup (T++[o]++W),rD (List.replicate v.length 0),.lst (iL v),.tup ((iL v++iL v++iL v).take 5),.tup ((iL v).take 1),.tup [],.non];have q3:xS [some (.loc l),some (rD v),some (.int k),some o,none] s2=.ok (.nx [some (.loc l),some (rD v),some (.int k),some o,some (.lst M7)]) s2:=by
  have c1:T.length+1<=cap:=by simp[cap];omega
  have c2:T.length+1+W.length<=cap:=by simp[cap];omega
  have c4:(1:Nat)<=cap:=by decide
  have c0:(0:Nat)<=cap:=by decide
  have c7:(7:Nat)<=cap:=by decide
  have key:∀(d z g aa bb cc y:D),dSl d none (some (k:Int)) s2=.ok (.tup T) s2->dSl d (some ((k:Int)+1)) none s2=.ok (.tup W) s2->ub [d] s2=.ok (.int v.length) s2->z8Z (.tup [.int 0]) (.int v.length) s2=.ok z s2->z9A [d] s2=.ok g s2->vt d d s2=.ok aa s2->vt aa d s2=.ok bb s2->dSl bb none (some 5) s2=.ok cc s2->dSl d none (some 1) s2=.ok y s2-> xS [some (.loc l),some d,some (.int k),some o,none] s2=.ok (.nx [some (.loc l),some d,some (.int k),some o,some (.lst [.tup (T++[o]++W),z,g,cc,y,.tup [],.non])]) s2:=λd z g aa bb cc y x1 x2 x3 x4 x5 x6 x7 x8 x9=>by
   rw[xS,ya];simp only[wo,zo,zH,wB,z9G,uP,z0u,xV,uH,z25,xi,_t,_u,Rb,x1,x2,x3,x4,x5,x6,x7,x8,x9,z5M,kQ,_M,_g,_i,_E,_e c1,_e c2,_e c4,_e c0,Nat.reduceAdd,_e c7,_bh,_bg]
  exact key _ _ _ _ _ _ _ sk sd1 (gl s2) rp gls ad ad2 s5' s1'
 let M11:List D:=M7++[.int 7,.str "1:2",.dct,.tup [rD v]];obtain⟨r4,s4,e4,a4,b4,d4⟩:=jg (f:=zc 0) (g:=eC (.int 11)) (far:=11) (Z:=[some (.loc l),some (rD v),some (.int k),some o,some (.lst M7)]) (d1.trans d2).pot (by decide) (z3q (by decide)) (by simp) (by simp);have hr4:r4.toNat<M11.length:=by simp[M11,M7];omega
 have ix4:=z5O (xs:=M11) (d:=M11[r4.toNat]) (s:=s4) a4 (by simp[hr4]);have hrow:∀x∈iL v,(tyD x).isSome=true:=λx hx=>by obtain⟨z,hz,rfl⟩:=_J.mp hx;rfl
 have hM:∀d∈M11,NoL d:=by
  intro d hd;simp only[M11,M7,_H,_q,_ad,_bx]at hd;rcases hd with (rfl | rfl | rfl | rfl | rfl | rfl | rfl) | rfl | rfl | rfl | rfl
  ·refine NoL.odd (o:=o) (λx hx=>?_) (by simp) ho.2;simp only[_H,_q,_ad,_bx]at hx;rcases hx with (hx | rfl) | hx;·exact hrow x (iT x hx)
   ·exact ho.1
   ·exact hrow x (iW x hx)
  ·refine⟨λx hx=>by obtain⟨z,hz,rfl⟩:=_J.mp hx;rfl,λn' v' e lt=>?_⟩;have e':List.replicate v.length 0=v':=zan (by simpa using e);obtain⟨x,hx,h0⟩:=lt.pos;rw[<- e']at hx;have:=_a4 hx;omega
  ·exact NoL.other rfl (by intro xs q;cases q)
  ·refine NoL.len (λx hx=>?_) (.inr (by simp;omega));have hx:=_aQ hx;simp only[_H]at hx;rcases hx with (hx | hx) | hx<;>exact hrow x hx
  ·exact NoL.len (λx hx=>hrow x (_aQ hx)) (.inl (by simp;omega))
  ·exact NoL.len (λx hx=>by cases hx) (.inl (by decide))
  ·exact NoL.other rfl (by intro xs q;cases q)
  ·exact NoL.other rfl (by intro xs q;cases q)
  ·exact NoL.other rfl (by intro xs q;cases q)
  ·exact NoL.other rfl (by intro xs q;cases q)
  ·exact NoL.len (λx hx=>by simp only[_q,_ad,_bx]at hx;subst hx;rfl) (.inl (by simp))
 refine⟨M11[r4.toNat],s4,?_,hM _ (_bb hr4),(d1.trans d2).trans d4⟩;have q4:wa [some (.loc l),some (rD v),some (.int k),some o,some (.lst M7)] s2=.ok (.rt M11[r4.toNat]) s4:=by
  have lM:M7.length=7:=rfl;have key:∀(d x y:D) (z:List D),z.length=7->x=.lst z->zi zm (za (zc 0) (za (eC (.int 11)) zk)) [some (.loc l),some d,some (.int k),some o,some x] s2=.ok (.int r4) s4->dIx (.lst (z++[.int 7,.str "1:2",.dct,.tup [d]])) (.int r4) s4=.ok y s4-> wa [some (.loc l),some d,some (.int k),some o,some x] s2=.ok (.rt y) s4:=λd x y z hz hx x1 x2=>by
   subst hx;have c4:(4:Nat)<=cap:=by decide
   have c1:(1:Nat)<=cap:=by decide
   have c11:(11:Nat)<=cap:=by decide
   rw[wa,xg];simp only[wo,zo,zH,wB,xV,uH,z25,_t,_u,Rb,x1,x2,z5Z,_g,_i,hz,_E,Nat.reduceAdd,_e c1,_e c4,_e c11]
  exact key _ _ _ M7 lM rfl e4 ix4
 simp only[xJ,Mof,jK,st,_g,_i,_G];rw[zq q1,zq q2,zq q3,q4]
end Pp
namespace Pr
open L2 Dd Pm Pg Pn Po
theorem z0c:∀a b:List Int,PyData.eqvAll (toPys (iL a)) (toPys (iL b))=decide (a=b)
 | [],[]=>by simp[toPys,PyData.eqvAll] | [],_::_=>by simp[toPys,PyData.eqvAll] | _::_,[]=>by simp[toPys,PyData.eqvAll] | x::a,y::b=>by
  have ih:=z0c a b;simp only[iL]at ih;simp[toPys,xK,PyData.eqvAll,PyData.eqv,ih];rfl
theorem zdT(a b:List Int):eqD (rD a) (rD b)=decide (a=b):=by
 have:=z0c a b;simp only[eqD,xK,PyData.eqv,this]
theorem zfu(a b:List Int)(s:Sto):dEq (rD a) (rD b) s=.ok (.bl (decide (a=b))) s:=by rw[dEq,_e ⟨zdU (k:=1) (zeu 0 a) (by decide),zdU (k:=1) (zeu 0 b) (by decide)⟩,zdT]
theorem z4f:∀(F:List (List Int)),D.flat.flats (F.map rD)=true
 | []=>rfl | r::T=>by
  have:=z4f T;simp[D.flat.flats,D.flat,this,uW]
theorem z3M {w:List Int} {b m:Nat} (h0:∀x∈w,0<=x):∀c∈zP w b m,c.length<=m+1:=λc hc=>by
 unfold zP at hc;obtain⟨p,hp,rfl⟩:=_J.mp hc;have hx:p.1∈w:=_C (List.mem_zipIdx_iff_getElem?.mp (show (p.1,p.2)∈w.zipIdx from hp));split;·simp
 ·have:=zbQ (d:=w.getD b 0) (most:=m) (h0 _ hx) (by omega);omega
theorem zat{k:Nat}(hk:1<=k)(cs:List (List Int)):(∀c∈cs,c.length<=k)->∀b,b<cs.length->(cs.getD b []).length<=1->(xa cs).length<=k ^ (cs.length-1):=by
 refine snoc_ind (P:=λcs=>(∀c∈cs,c.length<=k)->∀b,b<cs.length->(cs.getD b []).length<=1->(xa cs).length<=k ^ (cs.length-1)) (λ_ b hb=>by simp at hb) ?_ cs;intro cs c ih h b hb h1;have hc:=h c (by simp);have e:(z9M (xa cs) c).length=(xa cs).length*c.length:=by
  unfold z9M;rw[List.length_flatMap];simp;induction (xa cs) with
  | nil=>simp | cons a l ih=>simp[ih,Nat.add_mul,Nat.add_comm]
 rw[vp,e];have hcs:∀c∈cs,c.length<=k:=λc hc=>h c (by simp[hc]);simp only[_M,_b3]at hb ⊢;rw[show cs.length+1-1=cs.length by omega];by_cases q:b=cs.length
 ·rw[q,z8F (_h _)]at h1;simp at h1;have:=Nat.mul_le_mul (z2U cs hcs) h1;omega
 ·rw[z8a (by omega)]at h1;have:=Nat.mul_le_mul (ih hcs b (by omega) h1) hc;rw[<- _dp]at this;rwa [show (cs.length-1).succ=cs.length by omega]at this
theorem take_snoc{α:Type}{l:List α}{i:Nat}{d:α}(h:i<l.length):l.take (i+1)=l.take i++[l.getD i d]:=by
 rw[_b0,_f h];simp[_l,h]
end Pr
namespace Pt
open L2 Dd Pm Pg Pn Po Pr
def cnt(r:Rl):Nat->List Int->Nat
 | 0,_=>0 | f+1,v=>if ended v=true then 0 else cnt r f (stp r v)+1
def nst(r:Rl)(v:List Int):Nat:=cnt r (mu r v) v
theorem z6W{n:Nat}{r:Rl}:∀(f g:Nat)(v:List Int),Lot n v->mu r v<=f->mu r v<=g->cnt r f v=cnt r g v
 | 0,0,_,_,_,_=>rfl | 0,g+1,v,h,hf,hg=>by
  rw[cnt,cnt];by_cases e:ended v=true;·rw[_e e]
  ·have:=z5A r h (by simpa using e);omega | f+1,0,v,h,hf,hg=>by
  rw[cnt,cnt];by_cases e:ended v=true;·rw[_e e]
  ·have:=z5A r h (by simpa using e);omega | f+1,g+1,v,h,hf,hg=>by
  rw[cnt,cnt];by_cases e:ended v=true;·rw[_e e,_e e]
  ·have:=z5A r h (by simpa using e);rw[_j e,_j e,z6W f g (stp r v) (h.step r (by simpa using e)) (by omega) (by omega)]
theorem zeN{r:Rl}{v:List Int}(e:ended v=true):nst r v=0:=by
 unfold nst;cases mu r v with
 | zero=>rfl | succ k=>rw[cnt,_e e]
theorem zc9{n:Nat}{r:Rl}{v:List Int}(h:Lot n v)(e:ended v=false):nst r v=nst r (stp r v)+1:=by
 have m:=z5A r h e;have e1:nst r v=cnt r (mu r v+1) v:=z6W _ _ v h (_h _) (by omega);rw[e1,cnt,_j (by simp[e]),z6W (mu r v) (mu r (stp r v)) _ (h.step r e) (by omega) (_h _)];rfl
def K(v:List Int):List Key:=v.map Sum.inl
theorem zfG:∀{v w:List Int},K v=K w->v=w
 | [],[],_=>rfl | [],_::_,h=>by simp[K]at h | _::_,[],h=>by simp[K]at h | x::v,y::w,h=>by
  simp only[K,_v,_aK,Sum.inl.injEq]at h;rw[h.1,zfG (v:=v) (w:=w) h.2]
theorem z1x:∀v:List Int,z0f (iL v)=some (K v)
 | []=>rfl | x::v=>by
  have:=z1x v;simp only[iL,K]at this;simp[z0f,this,K]
theorem zdw(v:List Int):D.tup ((K v).map z6v)=rD v:=by
 unfold K;rw[_bj];rfl
abbrev Kv:=List (List Key×V)
structure Lt(n b:Nat)(v:List Int):Prop where
 lot:Lot n v
 le:∀x∈v,x<=(b:Int)
theorem Lt.step{n b:Nat}{v:List Int}(h:Lt n b v)(r:Rl)(e:ended v=false):Lt n b (stp r v):=⟨h.lot.step r e,zjh r h.lot e h.le⟩
theorem Lt.B{n b:Nat}{v:List Int}(h:Lt n b v)(hb:b<=900):z9Q n 10 v:=⟨h.lot,λx hx=>by
 have:=h.le x hx;have e:(2:Int) ^ 10=1024:=by decide
 omega⟩
structure Dk(n b:Nat)(d:Kv):Prop where
 nd:(d.map (·.1)).Nodup
 key:∀p∈d,∃v,Lt n b v/\p.1=K v/\∃z:Nat,p.2=.int ((z:Nat):Int)
def Ok(r:Rl)(d:Kv):Prop:=∀p∈d,∀v,p.1=K v->p.2=.int (nst r v)
theorem Dk.all{n b:Nat}{d:Kv}(h:Dk n b d):zbK d:=λp hp=>by
 obtain⟨v,_,_,z,e⟩:=h.key p hp;rw[e];rfl
theorem z7T{d:Kv}{k:List Key}{u:V}(h:ve d k=some u):(k,u)∈d:=by
 unfold ve at h;obtain⟨p,hp,rfl⟩:=_w.mp h;have e:p.1=k:=by simpa using List.find?_some hp
 rw[<- e];exact List.mem_of_find?_eq_some hp
theorem zbj{d:Kv}{p:List Key×V}(h:p∈d):∃u,ve d p.1=some u:=by
 have:(d.any λkv=>decide (kv.1=p.1))=true:=_df.mpr ⟨p,h,by simp⟩;rw[ju]at this;exact _aA.mp this
theorem z8y{d:Kv}{k:List Key}{u:V}{p:List Key×V}(h:p∈jI d k u):p=(k,u)\/(p∈d/\p.1≠k):=by
 unfold jI at h;split at h
 ·obtain⟨q,hq,rfl⟩:=_J.mp h;by_cases e:q.1=k;·rw[_e e,e];exact .inl rfl
  ·rw[_j e];exact .inr ⟨hq,e⟩
 ·rename_i q;rcases _H.mp h with h | h
  ·refine .inr ⟨h,λe=>q ?_⟩;exact _df.mpr ⟨p,h,by simpa using e⟩
  ·exact .inl (by simpa using h)
theorem z64{d:Kv}{k:List Key}{u:V}:(jI d k u).map (·.1)=if (d.any λkv=>decide (kv.1=k))=true then d.map (·.1) else d.map (·.1)++[k]:=by
 unfold jI;split
 ·rw[_bj];refine _a7 λp hp=>?_;simp only[Function.comp];split;·rfl
  ·rfl
 ·simp
theorem Dk.put{n b:Nat}{d:Kv}(h:Dk n b d){v:List Int}(hv:Lt n b v)(z:Nat):Dk n b (jI d (K v) (.int z)):=by
 refine⟨?_,λp hp=>?_⟩
 ·rw[z64];split;·exact h.nd
  ·rename_i q;rw[_cP];refine⟨h.nd,by simp,λa ha c hc e=>q ?_⟩;have hc:c=K v:=by simpa using hc
   obtain⟨p,hp,rfl⟩:=_J.mp ha;exact _df.mpr ⟨p,hp,by simpa using e.trans hc⟩
 ·rcases z8y hp with rfl | ⟨hp,_⟩;·exact⟨v,hv,rfl,z,rfl⟩
  ·exact h.key p hp
theorem Ok.put{r:Rl}{d:Kv}(h:Ok r d){v:List Int}:Ok r (jI d (K v) (.int (nst r v))):=λp hp w e=>by
 rcases z8y hp with rfl | ⟨hp,_⟩;·rw[zfG e]
 ·exact h p hp w e
theorem Ok.val{r:Rl}{d:Kv}(h:Ok r d){v:List Int}{u:V}(e:ve d (K v)=some u):u=.int (nst r v):=h _ (z7T e) v rfl
theorem len_sub {α:Type}:∀{l m:List α},l.Nodup->(∀x∈l,x∈m)->l.length<=m.length
 | [],m,_,_=>_am _ | a::l,m,nd,h=>by
  obtain⟨h1,h2⟩:=_bI.mp nd;obtain⟨p,q,rfl⟩:=List.append_of_mem (h a (.head _));have:=len_sub (l:=l) (m:=p++q) h2 λx hx=>by
   have z:=h x (.tail _ hx);have ne:x≠a:=λe=>h1 (e ▸ hx);rcases _H.mp z with z | z;·exact _af _ z
   ·rcases _q.mp z with z | z;·exact absurd z ne
    ·exact _s _ z
  simp only[_M,_g]at this ⊢;omega
def z6M(m:Nat):List Int:=(List.range (m+1)).map λk:Nat=>((k:Nat):Int)
theorem z7P{m:Nat}{x:Int}:x∈z6M m ↔ 0<=x/\x<=m:=by
 unfold z6M;rw[_J];constructor
 ·rintro⟨k,hk,rfl⟩;rw[_aI]at hk;omega
 ·rintro⟨h0,h1⟩;exact⟨x.toNat,by rw[_aI];omega,by omega⟩
theorem zfU(m:Nat):(z6M m).Pairwise (· < ·):=by
 unfold z6M;rw[_bt];exact List.pairwise_lt_range.imp λ{a b} h=>by omega
def kH(n m:Nat):List (List Int):=xa (List.replicate n (z6M m))
theorem z6E(n m:Nat):kH (n+1) m=z9M (kH n m) (z6M m):=by
 unfold kH;rw[List.replicate_succ',vp]
theorem z7R {n m:Nat}:(kH n m).length<=(m+1) ^ n:=by
 have:=z2U (List.replicate n (z6M m)) (k:=m+1) λc hc=>by rw[_a4 hc];simp[z6M]
 simpa[kH] using this
theorem zaK(n m:Nat):Up (kH n m):=z84 _ λc hc=>by rw[_a4 hc];exact zfU m
theorem z1y{n m:Nat}{v:List Int}:v∈kH n m ↔ v.length=n/\∀x∈v,0<=x/\x<=m:=by
 unfold kH;rw[qZ,_b2];constructor
 ·rintro⟨h1,h2⟩;refine⟨h1,λx hx=>?_⟩;obtain⟨i,hi,rfl⟩:=_F.mp hx;have:=h2 i (by omega);rw[show v.getD i 0=v[i] by simp[_l,hi],show (List.replicate n (z6M m)).getD i []=z6M m by simp[_l,show i<n by omega]]at this;exact z7P.mp this
 ·rintro⟨h1,h2⟩;refine⟨h1,λi hi=>?_⟩;rw[show (List.replicate n (z6M m)).getD i []=z6M m by simp[_l,hi]];exact z7P.mpr (h2 _ (Pm.getD_mem (by omega)))
theorem z6t(m:Nat):∀n,∃t,kH n m=List.replicate n 0::t
 | 0=>⟨[],rfl⟩ | n+1=>by
  obtain⟨t,e⟩:=z6t m n;rw[z6E,e,z9M,List.flatMap_cons];have:z6M m=0::(z6M m).tail:=by unfold z6M;rw[List.range_succ_eq_map];rfl
  rw[this,_v,_bz,List.replicate_succ'];exact⟨_,rfl⟩
def every(n m:Nat):List (List Int):=(kH n m).drop 1
theorem z2u{n m:Nat}(hn:Sz n){v:List Int}:v∈every n m ↔ Lt n m v:=by
 obtain⟨t,e⟩:=z6t m n;have up:=(List.pairwise_cons.mp (e ▸ zaK n m)).1;have et:every n m=t:=by unfold every;rw[e];rfl
 rw[et];constructor
 ·intro h;have h1:v∈kH n m:=by rw[e];exact .tail _ h
  obtain⟨l,b⟩:=z1y.mp h1;refine⟨⟨hn,l,λx hx=>(b x hx).1,?_⟩,λx hx=>(b x hx).2⟩;refine _au λz=>?_;have ez:v=List.replicate n 0:=by
   rw[List.eq_replicate_iff];refine⟨l,λx hx=>?_⟩;have:=(b x hx).1;refine _au λq=>z ⟨x,hx,by omega⟩
  have:=up v h;rw[ez,z4k]at this;cases this
 ·rintro⟨h,b⟩;have h1:v∈kH n m:=z1y.mpr ⟨h.len,λx hx=>⟨h.nn x hx,b x hx⟩⟩;rw[e]at h1;rcases _q.mp h1 with z | z
  ·obtain⟨x,hx,p⟩:=h.pos;rw[z]at hx;rw[_a4 hx]at p;omega
  ·exact z
theorem Dk.len {n b:Nat} {d:Kv} (h:Dk n b d) (hn:Sz n):d.length<=(b+1) ^ n:=by
 have h1:=len_sub (l:=d.map (·.1)) (m:=(kH n b).map K) h.nd λk hk=>by
  obtain⟨p,hp,rfl⟩:=_J.mp hk;obtain⟨v,hv,e,_⟩:=h.key p hp;rw[e];exact List.mem_map_of_mem (z1y.mpr ⟨hv.lot.len,λx hx=>⟨hv.lot.nn x hx,hv.le x hx⟩⟩)
 simp only[_I]at h1;exact _S h1 z7R
theorem zex{n b:Nat}{d:Kv}(h:Dk n b d){s:Sto}{l:Nat}(e:s[l]? = some (encD d))(v:List Int):qV s (.dlo l) (rD v)=some (ve d (K v)):=by simp only[qV,e,_A,z4a h.all,z1x]
theorem ziP{n b:Nat}{d:Kv}(h:Dk n b d){s:Sto}{l:Nat}(e:s[l]? = some (.non::encD d))(v:List Int):qV s (.dlo l) (rD v)=some (ve d (K v)):=by
 have:zf3 (.non::encD d)=some d:=dec_enc h.all;simp only[qV,e,_A,this,z1x]
theorem zfh{n b:Nat}{d:Kv}(h:Dk n b d){fo fk fv:FE}{Z:Ev}{s s1:Sto}{l:Nat}{v:List Int}{z:Nat}(hv:fv Z s=.ok (.int z) s1)(ho:fo Z s1=.ok (.dlo l) s1)(hk:fk Z s1=.ok (rD v) s1)(e:s1[l]? = some (encD d))(hl:d.length<cap): zbD fo fk fv Z s=.ok (.nx Z) (s1.set l (encD (jI d (K v) (.int z)))):=by simp only[zbD,hv,ho,hk,Rb,vV,e,_A,dec_enc h.all,z1x,_e hl]
end Pt
namespace Pr
open L2 Dd Pm Pg Pn Po Pp
theorem zeW(ps:List Int)(q:Int)(s:Sto):dSl (rD (ps++[q])) (some (-1)) none s=.ok (rD [q]) s:=by
 have e:Dd.cutD (iL (ps++[q])) (some (-1)) none=iL [q]:=by
  have e1:HT.sIx (iL (ps++[q])).length 0 (some (-1))=ps.length:=by
   unfold HT.sIx;simp only;rw[_e (by omega)];simp;omega
  unfold Dd.cutD;rw[e1];simp[HT.sIx]
 exact _a0 (λx=>R.ok (Dd.D.tup x) s) e
theorem qW{g:List Int}:(g.drop (g.length-1)++g.take (g.length-1)).length=g.length:=by simp
theorem z2M{g:List Int}{x:Int}:x∈g.drop (g.length-1)++g.take (g.length-1) ↔ x∈g:=by
 have e:=List.take_append_drop (g.length-1) g;rw[_H,or_comm,<- _H,e]
theorem z1M{n:Nat}{g:List Int}(h:Lot n g):Lot n (g.drop (g.length-1)++g.take (g.length-1)):=by
 obtain⟨x,hx,p⟩:=h.pos;exact⟨h.sz,by rw[qW,h.len],λx hx=>h.nn x (z2M.mp hx),⟨x,z2M.mpr hx,p⟩⟩
end Pr
namespace Pt
open L2 Dd Pm Pg Pn Po Pr Pp
theorem zcN {n m:Nat} (hn:n<=4) (hm:m<=30) (hs:(m+1) ^ n<=90000) (s:Sto):yb [.int n,.int 0,.int m] s=.ok (.lst ((kH n m).map rD)) s:=by
 have f1:yY [some (.int n),some (.int 0),some (.int m),none,none] s=.ok (.nx [some (.int n),some (.int 0),some (.int m),some (.lst ((kH 0 m).map rD)),none]) s:=by
  rw[yY,ya,wo,zo,uH,zH];simp[cap,kH,xa]
 obtain⟨Z',S',lp,a4,hZ,rfl⟩:=jE (all:=(List.range n).map λk:Nat=>D.int ((k:Nat):Int)) (body:=λx Z s=>(kb 4 x Z s).bind λZ' s'=>yZ Z' s') (λi Z S'=>∃a4,Z=[some (.int n),some (.int 0),some (.int m),some (.lst ((kH i m).map rD)),a4]/\S'=s) ((List.range n).map λk:Nat=>D.int ((k:Nat):Int)) 0 (by
   intro i x hx Z S' ⟨a4,hZ,hS⟩;subst hZ hS;rw[_E];have hi:i<n:=by have:=(_c.mp hx).1;simpa using this
   have eg:((kH i m).flatMap λa=>(List.range (m+1)).map λk=>rD (a++[((k:Nat):Int)]))=(kH (i+1) m).map rD:=by
    rw[z6E,z9M,List.map_flatMap,z6M];simp[_b1]
   have c:=z6e (fi:=vx (zc 3)) (mp:=[some 1,some 2,none,none]) (k1:=2) (k2:=3) (fi2:=z92 (za (zc 0) (za (eOp vt (zc 1) (eC (.int 1))) zk))) (fe:=eOp vt (zc 2) (qM (za (zc 3) zk))) (Z:=[some (.int n),some (.int 0),some (.int m),some (.lst ((kH i m).map rD)),some x]) (s:=S') rD (λ_ (k:Nat)=>D.int ((k:Nat):Int)) (kH i m) (λ_=>List.range (m+1)) (λa k=>rD (a++[((k:Nat):Int)])) (qk (vr rfl)) (λa _=>by
     rw[zfv,zo,vr (d:=.int 0) rfl,Rb,zo,op2 (x:=.int m) (y:=.int 1) (vr rfl) rfl,z5M,Rb,zH];simp only[Rb];rw[_e (by omega),show ((m:Int)+1-0).toNat=m+1 by omega];simp[kn]) (λa ha k _=>by
     have la:=(z1y.mp ha).1;rw[op2 (x:=rD a) (y:=rD [(k:Int)]) (vr rfl) (by
      rw[uH,zo,vr (d:=.int k) rfl,Rb,zH];simp[cap]),kQ,_e (by simp[cap];omega)];simp) (by
     rw[eg,_I];have h1:=z7R (n:=i+1) (m:=m);have h2:(m+1) ^ (i+1)<=(m+1) ^ n:=_ar (by omega) (by omega);have:(90000:Nat)<=cap:=by unfold cap;omega
     omega);rw[eg]at c;refine⟨[some (.int n),some (.int 0),some (.int m),some (.lst ((kH (i+1) m).map rD)),some x],S',?_,some x,rfl,rfl⟩;rw[zew,Rb];show yZ [some (.int n),some (.int 0),some (.int m),some (.lst ((kH i m).map rD)),some x] S'=_;rw[yZ,ya,c];rfl) [some (.int n),some (.int 0),some (.int m),some (.lst ((kH 0 m).map rD)),none] s ⟨none,rfl,rfl⟩;rw[_E,_I,_cR]at hZ;have f2:yX [some (.int n),some (.int 0),some (.int m),some (.lst ((kH 0 m).map rD)),none] S'=.ok (.nx Z') S':=by
  rw[yX,z1b,z6P (n:=n) (s1:=S') (by omega) (by rw[zo,vr (d:=.int n) rfl,Rb,zH];rfl),Rb];exact lp
 have key:∀(dn dz dm d0 d:D) (a4:Option D),yY [some dn,some dz,some dm,none,none] S'=.ok (.nx [some dn,some dz,some dm,some d0,none]) S'->yX [some dn,some dz,some dm,some d0,none] S'=.ok (.nx [some dn,some dz,some dm,some d,a4]) S'->yb [dn,dz,dm] S'=.ok d S':=λdn dz dm d0 d a4 h1 h2=>by
  have st:zt ["size","least","most","found","place"] [dn,dz,dm]=[some dn,some dz,some dm,none,none]:=rfl;simp only[yb,Mof,uI,st,_g,_i,_G];rw[zq h1,zq h2];rfl
 rw[hZ]at f2;exact key _ _ _ _ _ _ f1 f2
theorem z2p{n b:Nat}(h1:2<=n)(h2:n<=b)(s:Sto):vC [.int n,.int b] s=.ok .non s:=by
 have w:=jA (n:Int) s;have a1:decide ((2:Int)<=(n:Int))=true:=_aq (by omega);have a2:decide ((n:Int)<=(b:Int))=true:=_aq (by omega);have a3:¬ b<n:=by omega
 simp[vC,Mof,z10,zt,w,a1,a2,a3]
def wk(r:Rl)(d:Kv):Nat->List Int->List (List Int)
 | 0,c=>[c] | f+1,c=>if (ve d (K c)).isSome=true\/ended c=true then [c] else c::wk r d f (stp r c)
inductive Chain(r:Rl):List (List Int)->Prop | one (c:List Int):Chain r [c] | cons {c:List Int}{t:List (List Int)}:ended c=false->Chain r (stp r c::t)->Chain r (c::stp r c::t)
theorem zaG(r:Rl)(d:Kv)(f:Nat)(c:List Int):∃t,wk r d f c=c::t:=by cases f with
 | zero=>exact⟨[],rfl⟩ | succ f=>
  rw[wk];split;·exact⟨[],rfl⟩
  ·exact⟨_,rfl⟩
theorem z83(r:Rl)(d:Kv):∀(f:Nat)(c:List Int),Chain r (wk r d f c)
 | 0,c=>.one c | f+1,c=>by
  rw[wk];split;·exact .one c
  ·rename_i q;have ih:=z83 r d f (stp r c);obtain⟨t,e⟩:=zaG r d f (stp r c);rw[e]at ih ⊢;exact .cons (by cases h:ended c with | false=>rfl | true=>exact absurd (.inr h) q) ih
theorem zgF{n b:Nat}{r:Rl}{d:Kv}:∀(f:Nat)(c:List Int),Lt n b c->∀v∈wk r d f c,Lt n b v
 | 0,c,h,v,hv=>by rw[_aU.mp hv];exact h | f+1,c,h,v,hv=>by
  rw[wk]at hv;split at hv;·rw[_aU.mp hv];exact h
  ·rename_i q;rcases _q.mp hv with rfl | hv;·exact h
   ·exact zgF f _ (h.step r (by cases z:ended c with | false=>rfl | true=>exact absurd (.inr z) q)) v hv
theorem zbn {n b:Nat} {r:Rl} {d:Kv}:∀(f:Nat) (c:List Int),Lt n b c->mu r c<=f->∃p e,wk r d f c=p++[e]/\((ve d (K e)).isSome=true\/ended e=true)
 | 0,c,h,hf=>by
  refine⟨[],c,rfl,?_⟩;cases z:ended c with
  | true=>exact .inr rfl | false=>have:=z5A r h.lot z;omega
 | f+1,c,h,hf=>by
  rw[wk];split;·rename_i q;exact⟨[],c,rfl,q⟩
  ·rename_i q;have z:ended c=false:=by cases z:ended c with | false=>rfl | true=>exact absurd (.inr z) q
   have:=z5A r h.lot z;obtain⟨p,e,h1,h2⟩:=zbn (r:=r) (d:=d) f (stp r c) (h.step r z) (by omega);exact⟨c::p,e,by rw[h1];rfl,h2⟩
theorem z2x{n b:Nat}{r:Rl}{W:List (List Int)}(h:Chain r W):(∀v∈W,Lt n b v)->∀(j:Nat)(v:List Int),W.reverse[j]? = some v->∃e,W.reverse[0]? = some e/\nst r v=nst r e+j:=by induction h with
 | one c=>
  intro _ j v hj;have:j=0:=by have:=(_c.mp hj).1;simp at this;omega
  subst this;exact⟨v,hj,rfl⟩ | @cons c t he h ih=>
  intro hl j v hj;have ih:=ih λv hv=>hl v (.tail _ hv);rw[_ax]at hj ⊢;have z0:((stp r c::t).reverse++[c])[0]? = (stp r c::t).reverse[0]? := _o (by simp);rw[z0];by_cases q:j<(stp r c::t).reverse.length
  ·rw[_o q]at hj;exact ih j v hj
  ·rw[_O (by omega)]at hj;have e1:j-(stp r c::t).reverse.length=0:=by have:=(_c.mp hj).1;simp at this ⊢;omega
   rw[e1]at hj;have:v=c:=by simpa using hj.symm
   subst this;obtain⟨e,h1,h2⟩:=ih t.length (stp r v) (by rw[_ax,_O (by simp)];simp);refine⟨e,h1,?_⟩;rw[zc9 (hl v (.head _)).lot he,h2];simp at e1 q;omega
abbrev F8(a0 a1 a2 a3 a4 a5 a6 a7:Option D):Ev:=[a0,a1,a2,a3,a4,a5,a6,a7]
noncomputable abbrev zjV:FT:=zhF (tOf (eOp (zgP true) (eOp dIx (zc 5) (z3Z (eC (.int 1)))) (zc 3))) (z2E (tOf (zi yo (za (eOp dIx (zc 5) (z3Z (eC (.int 1)))) zk))))
section
variable {n b:Nat}{r:Rl}{d:Kv}{S:Sto}{l:Nat}(hd:Dk n b d)(hl:S[l]? = some (encD d))(hb:b<=900){a1 a2 a4 a6 a7:Option D}
include hd hl hb
theorem zaW (ps:List (List Int)) (c:List Int) (a0:Option D):eOp dIx (zc 5) (z3Z (eC (.int 1))) (F8 a0 a1 a2 (some (.dlo l)) a4 (some (.loc S.length)) a6 a7) (S++[(ps++[c]).map rD])=.ok (rD c) (S++[(ps++[c]).map rD]):=by
 rw[op2 (x:=.loc S.length) (y:=.int (-1)) (vr rfl) rfl];exact zbB (xs:=ps.map rD) (by simp[zW])
theorem z8D {c:List Int} (hc:Lt n b c) (ps:List (List Int)) (a0:Option D):zjV (F8 a0 a1 a2 (some (.dlo l)) a4 (some (.loc S.length)) a6 a7) (S++[(ps++[c]).map rD])=.ok (!(ve d (K c)).isSome&&!ended c) (S++[(ps++[c]).map rD]):=by
 have ll:l<S.length:=(_c.mp hl).1;have hl2:(S++[(ps++[c]).map rD])[l]? = some (encD d):=by rw[_o ll];exact hl
 have ix:=zaW (a1:=a1) (a2:=a2) (a4:=a4) (a6:=a6) (a7:=a7) hd hl hb ps c a0;have he:=kc hc.lot (S++[(ps++[c]).map rD]);have da:=zex hd hl2 c;generalize S++[(ps++[c]).map rD]=T at *;unfold zjV;rw[zbW,vN (b:=!(ve d (K c)).isSome) (by
  rw[op2 (x:=rD c) (y:=.dlo l) ix (vr rfl)];simp only[zgP,da];rfl),Rb];cases (ve d (K c)).isSome with
 | true=>rfl | false=>
  rw[_e (by rfl:(!false)=true),zc6,vN (b:=ended c) (by rw[ud (x:=rD c) ix];exact he),Rb];rfl
theorem z5L:∀(f:Nat) (c:List Int) (ps:List (List Int)),Lt n b c->mu r c<=f->ps.length+f+1<90000-> uK zjV xw (f+1) (F8 (some (.str (nmR r))) a1 a2 (some (.dlo l)) a4 (some (.loc S.length)) a6 a7) (S++[(ps++[c]).map rD])=.ok (.nx (F8 (some (.str (nmR r))) a1 a2 (some (.dlo l)) a4 (some (.loc S.length)) a6 a7)) (S++[(ps++wk r d f c).map rD])
 | 0,c,ps,h,hf,hp=>by
  have t:=z8D (a1:=a1) (a2:=a2) (a4:=a4) (a6:=a6) (a7:=a7) hd hl hb h ps (some (.str (nmR r)));have e:ended c=true:=by cases z:ended c with
   | true=>rfl | false=>have:=z5A r h.lot z;omega
  rw[e,_bo,Bool.and_false]at t;rw[uK,t,Rb];rfl | f+1,c,ps,h,hf,hp=>by
  have t:=z8D (a1:=a1) (a2:=a2) (a4:=a4) (a6:=a6) (a7:=a7) hd hl hb h ps (some (.str (nmR r)));rw[uK,t,Rb,wk];by_cases q:(ve d (K c)).isSome=true\/ended c=true;·rw[_e q,_j (by rcases q with q | q<;>simp[q])]
  ·have z:ended c=false:=by cases z:ended c with | false=>rfl | true=>exact absurd (.inr z) q
   have k:(ve d (K c)).isSome=false:=by cases k:(ve d (K c)).isSome with | false=>rfl | true=>exact absurd (.inl k) q
   have m:=z5A r h.lot z;rw[_j q,_e (by simp[z,k])];have ix:=zaW (a1:=a1) (a2:=a2) (a4:=a4) (a6:=a6) (a7:=a7) hd hl hb ps c (some (.str (nmR r)));have sp:=zeh r (h.B hb) z (by decide) (S++[(ps++[c]).map rD]);have fl:(rD (stp r c)).flat=true:=uW _;have ih:=z5L f (stp r c) (ps++[c]) (h.step r z) (by omega) (by simp;omega);have ea:(ps++[c]++[stp r c]).map rD=(ps++[c]).map rD++[rD (stp r c)]:=by simp
   rw[_a1 ps [c] (wk r d f (stp r c)),ea]at ih;have ln:((ps++[c]).map rD).length<90000:=by simp;omega
   have f5:xw (F8 (some (.str (nmR r))) a1 a2 (some (.dlo l)) a4 (some (.loc S.length)) a6 a7) (S++[(ps++[c]).map rD])=.ok (.nx (F8 (some (.str (nmR r))) a1 a2 (some (.dlo l)) a4 (some (.loc S.length)) a6 a7)) (S++[(ps++[c]).map rD++[rD (stp r c)]]):=by
    generalize (ps++[c]).map rD=X at *;generalize rD (stp r c)=y at *;generalize rD c=w at *;rw[xw,xB,zbO,vr (d:=.loc S.length) rfl,Rb];simp only;rw[call2 (x:=.str (nmR r)) (y:=w) (vr rfl) ix,sp,Rb];have gt:(S++[X])[S.length]? = some X:=by simp
    rw[gt];simp only;rw[_e ⟨fl,by unfold cap;omega⟩,zav];rfl
   rw[f5,Rb];exact ih
end
def zgx(d d':Kv):Prop:=∀k,(ve d k).isSome=true->(ve d' k).isSome=true
theorem zgx.put(d:Kv)(k:List Key)(u:V):zgx d (jI d k u):=λj h=>by
 rw[z4o];split;·rfl
 ·exact h
noncomputable abbrev zjf:D->Ev->Sto->R Fl:=λx Z s=>(kb 7 x Z s).bind λZ' s'=>(zF yR wX) Z' s'
noncomputable abbrev zib:D->Ev->Sto->R Fl:=λx Z s=>(kb 4 x Z s).bind λZ' s'=>(zF yL (zF yP (zF yO xz))) Z' s'
def unK(k:List Key):List Int:=k.map λ| .inl i=>i | .inr _=>0
theorem z8N:∀v:List Int,unK (K v)=v
 | []=>rfl | x::v=>by
  have:=z8N v;simp only[unK,K,_v]at this ⊢;rw[this]
noncomputable def flt(r:Rl)(M:Nat)(d:Kv):List (List Int):=((d.map (·.1)).map unK).filter λw=>decide (nst r w=M)
theorem zab{r:Rl}{M:Nat}{d:Kv}{v:List Int}{u:V}(h:nst r v=M->(ve d (K v)).isSome=false):flt r M (jI d (K v) u)=flt r M d++if nst r v=M then [v] else []:=by
 unfold flt;rw[z64];by_cases q:(d.any λkv=>decide (kv.1=K v))=true;·rw[_e q,_j (λz=>by have:=h z;rw[<- ju,q]at this;cases this),_aD]
 ·rw[_j q,List.map_append,_bP];by_cases z:nst r v=M;·simp[z8N,z]
  ·simp[z8N,z]
def z5j(r:Rl)(d:Kv):List (List Int)->Kv
 | []=>d | v::W=>z5j r (jI d (K v) (.int (nst r v))) W
theorem z4s(r:Rl):∀(W:List (List Int))(d:Kv)(v:List Int),z5j r d (W++[v])=jI (z5j r d W) (K v) (.int (nst r v))
 | [],d,v=>rfl | w::W,d,v=>z4s r W _ v
theorem za1{r:Rl}{M:Nat}:∀(W:List (List Int))(d:Kv),(∀w∈W,nst r w<M)->flt r M (z5j r d W)=flt r M d
 | [],d,_=>rfl | w::W,d,h=>by
  have hw:=h w (.head _);rw[z5j,za1 W _ λx hx=>h x (.tail _ hx),zab (λz=>by omega),_j (by omega),_aD]
theorem zaa{r:Rl}{v:List Int}:∀(W:List (List Int))(d:Kv),v∉W->ve (z5j r d W) (K v)=ve d (K v)
 | [],d,_=>rfl | w::W,d,h=>by rw[z5j,zaa W _ (λz=>h (.tail _ z)),z4o,_j (λz=>h (by rw[zfG z];exact .head _))]
theorem z9E {n b:Nat} {r:Rl} (hn:Sz n) (hb:(b+1) ^ n<=90000) {W:List (List Int)} (ch:Chain r W) (hW:∀v∈W,Lt n b v) {e:List Int} (he:W.reverse[0]? = some e) {d:Kv} {S:Sto} {l:Nat} (hd:Dk n b d) (ho:Ok r d) (hl:S[l]? = some (encD d)) (a0 a1 a2 a4 a5 a7:Option D): ∃b6 b7 S',vk [] (W.reverse.map rD) zjf (W.reverse.map rD) (F8 a0 a1 a2 (some (.dlo l)) a4 a5 (some (.int (nst r e))) a7) S=.ok (.nx (F8 a0 a1 a2 (some (.dlo l)) a4 a5 b6 b7)) S'/\Dk n b (z5j r d W.reverse)/\Ok r (z5j r d W.reverse)/\S'[l]? = some (encD (z5j r d W.reverse))/\zgx d (z5j r d W.reverse)/\(∀v∈W,(ve (z5j r d W.reverse) (K v)).isSome=true)/\S'.length=S.length/\∀j,j≠l->S'[j]? = S[j]? := by
 obtain⟨Z',S',lp,z7,hZ,h1,h2,h3,h4,h5,h6,h7⟩:=jE (all:=W.reverse.map rD) (body:=zjf) (λj Z S'=>∃z7,Z=F8 a0 a1 a2 (some (.dlo l)) a4 a5 (some (.int ((nst r e+j:Nat):Int))) z7/\Dk n b (z5j r d (W.reverse.take j))/\Ok r (z5j r d (W.reverse.take j))/\S'[l]? = some (encD (z5j r d (W.reverse.take j)))/\zgx d (z5j r d (W.reverse.take j))/\(∀v∈W.reverse.take j,(ve (z5j r d (W.reverse.take j)) (K v)).isSome=true)/\S'.length=S.length/\∀j,j≠l->S'[j]? = S[j]?) (W.reverse.map rD) 0 (by
  intro j x hx Z S1 ⟨z7,hZ,h1,h2,h3,h4,h5,h6,h7⟩;subst hZ;rw[_E]at h1 h2 h3 h4 h5 ⊢;rw[_V,_w]at hx;obtain⟨v,hv,rfl⟩:=hx;obtain⟨e',he',hj⟩:=z2x ch hW j v hv;rw[he]at he';cases he';have hvW:v∈W:=List.mem_reverse.mp (_C hv);have ts:W.reverse.take (j+1)=W.reverse.take j++[v]:=by rw[_b0,hv];rfl
  rw[ts,z4s];generalize z5j r d (W.reverse.take j)=d1 at *;have ln:d1.length<cap:=by have:=h1.len hn;unfold cap;omega
  have l1:l<S1.length:=(_c.mp h3).1;have f8:yR (F8 a0 a1 a2 (some (.dlo l)) a4 a5 (some (.int ((nst r e+j:Nat):Int))) (some (rD v))) S1=.ok (.nx (F8 a0 a1 a2 (some (.dlo l)) a4 a5 (some (.int ((nst r e+j:Nat):Int))) (some (rD v)))) (S1.set l (encD (jI d1 (K v) (.int (nst r v))))):=by
   rw[yR,hj];exact zfh h1 (vr rfl) (vr rfl) (vr rfl) h3 ln
  refine⟨F8 a0 a1 a2 (some (.dlo l)) a4 a5 (some (.int ((nst r e+(j+1):Nat):Int))) (some (rD v)),S1.set l (encD (jI d1 (K v) (.int (nst r v)))),?_,some (rD v),rfl,h1.put (hW v hvW) _,h2.put,_L l1,λk hk=>zgx.put _ _ _ k (h4 k hk),λw hw=>?_,by rw[_bK,h6],λi hi=>by rw[_B (_aM hi),h7 i hi]⟩
  ·show (zF yR wX) (F8 a0 a1 a2 (some (.dlo l)) a4 a5 (some (.int ((nst r e+j:Nat):Int))) (some (rD v))) S1=_;rw[zq f8];rfl
  ·rcases _H.mp hw with hw | hw;·exact zgx.put _ _ _ _ (h5 w hw)
   ·rw[_aU.mp hw,z4o,_e rfl];rfl) (F8 a0 a1 a2 (some (.dlo l)) a4 a5 (some (.int (nst r e))) a7) S ⟨a7,rfl,hd,ho,hl,λ_ h=>h,by simp,rfl,λ_ _=>rfl⟩;rw[_E,_I,List.take_length]at h1 h2 h3 h4 h5;exact⟨_,z7,S',lp.trans (by rw[hZ]),h1,h2,h3,h4,λv hv=>h5 v (List.mem_reverse.mpr hv),h6,h7⟩
abbrev G8(r:Rl)(a1 a2:Option D)(l:Nat)(v:List Int)(a5 a6 a7:Option D):Ev:=F8 (some (.str (nmR r))) a1 a2 (some (.dlo l)) (some (rD v)) a5 a6 a7
theorem zaB {n b:Nat} {r:Rl} (hn:Sz n) (hb:b<=30) (hb2:(b+1) ^ n<=90000) {v:List Int} (hv:Lt n b v) {M:Nat} (hM:nst r v<=M) {d:Kv} {S:Sto} {l:Nat} (hd:Dk n b d) (ho:Ok r d) (hl:S[l]? = some (encD d)) (new:nst r v=M->(ve d (K v)).isSome=false) (a1 a2 a4 a5 a6 a7:Option D): ∃b5 b6 b7 d' S',zib (rD v) (F8 (some (.str (nmR r))) a1 a2 (some (.dlo l)) a4 a5 a6 a7) S=.ok (.nx (G8 r a1 a2 l v b5 b6 b7)) S'/\Dk n b d'/\Ok r d'/\S'[l]? = some (encD d')/\zgx d d'/\(ve d' (K v)).isSome=true/\flt r M d'=flt r M d++(if nst r v=M then [v] else [])/\S.length<=S'.length/\∀j,j≠l->j<S.length->S'[j]? = S[j]? := by
 have mb:mu r v<=103:=by
  have:=zjD (m:=5) (r:=r) hv.lot λx hx=>by
   have h1:=hv.le x hx;have h2:=hv.lot.nn x hx;have:x.toNat<=30:=by omega
   exact Nat.lt_of_le_of_lt this (by decide)
  omega
 have ll:l<S.length:=(_c.mp hl).1;obtain⟨p,e,hpe,hlast⟩:=zbn (r:=r) (d:=d) 103 v hv mb;have he:Lt n b e:=zgF (r:=r) (d:=d) 103 v hv e (by rw[hpe];simp);have f3:yL (G8 r a1 a2 l v a5 a6 a7) S=.ok (.nx (G8 r a1 a2 l v (some (.loc S.length)) a6 a7)) (S++[([]++[v]).map rD]):=by
  have fl:=z4f [v];simp only[_v,_bY]at fl;simp only[_bl,_v,_bY];unfold G8;generalize rD v=x at *;rw[yL,ya,zbG,zo,vr (d:=x) rfl,Rb,zH];simp only[Rb];rw[_e ⟨by simp[cap],fl⟩];rfl
 have f4:yP (G8 r a1 a2 l v (some (.loc S.length)) a6 a7) (S++[([]++[v]).map rD])=.ok (.nx (G8 r a1 a2 l v (some (.loc S.length)) a6 a7)) (S++[(wk r d 103 v).map rD]):=by
  have lp:=z5L (r:=r) (a1:=a1) (a2:=a2) (a4:=some (rD v)) (a6:=a6) (a7:=a7) hd hl (by omega) 103 v [] hv mb (by simp);rw[_bl (wk r d 103 v)]at lp;rw[yP];exact zdk lp (by simp)
 have hl2:(S++[(wk r d 103 v).map rD])[l]? = some (encD d):=by rw[_o ll];exact hl
 have da:=zex hd hl2 e;have f6:yO (G8 r a1 a2 l v (some (.loc S.length)) a6 a7) (S++[(wk r d 103 v).map rD])=.ok (.nx (G8 r a1 a2 l v (some (.loc S.length)) (some (.int (nst r e))) a7)) (S++[(wk r d 103 v).map rD]):=by
  have ix:eOp dIx (zc 5) (z3Z (eC (.int 1))) (G8 r a1 a2 l v (some (.loc S.length)) a6 a7) (S++[(wk r d 103 v).map rD])=.ok (rD e) (S++[(wk r d 103 v).map rD]):=by
   rw[op2 (x:=.loc S.length) (y:=.int (-1)) (vr rfl) rfl];exact zbB (xs:=p.map rD) (by simp[zW,hpe])
  generalize S++[(wk r d 103 v).map rD]=T at *;rw[yO,ya,zcE,vr (d:=.dlo l) rfl,Rb];simp only;rw[ix,Rb,z25,Rb,da];cases hval:ve d (K e) with
  | some u=>rw[ho.val hval];rfl | none=>
   have:ended e=true:=hlast.resolve_left (by simp[hval]);rw[zeN this];rfl
 have rev0:(wk r d 103 v).reverse[0]? = some e:=by rw[hpe];simp
 have ch:=z83 r d 103 v;have hW:=zgF (r:=r) (d:=d) 103 v hv;obtain⟨b6,b7,S',lp,h1,h2,h3,h4,h5,h6,h7⟩:=z9E hn hb2 ch hW rev0 hd ho hl2 (some (.str (nmR r))) a1 a2 (some (rD v)) (some (.loc S.length)) a7;obtain⟨t,ht⟩:=zaG r d 103 v;have low:∀w∈t.reverse,nst r w<nst r v:=λw hw=>by
  obtain⟨j,hj⟩:=List.getElem?_of_mem hw;have lt:=(_c.mp hj).1;have g1:(wk r d 103 v).reverse[j]? = some w:=by rw[ht,_ax,_o lt];exact hj
  have g2:(wk r d 103 v).reverse[t.length]? = some v:=by rw[ht,_ax,_O (by simp)];simp
  obtain⟨e1,q1,n1⟩:=z2x ch hW j w g1;obtain⟨e2,q2,n2⟩:=z2x ch hW t.length v g2;rw[q1]at q2;cases q2;simp at lt;omega
 refine⟨some (.loc S.length),b6,b7,_,S',?_,h1,h2,h3,h4,h5 v ?_,?_,by rw[h6];simp,λj hj hlt=>by rw[h7 j hj,_o hlt]⟩
 ·show (zF yL (zF yP (zF yO xz))) (G8 r a1 a2 l v a5 a6 a7) S=_;rw[zq f3,zq f4,zq f6];have it:vx (zbk (zc 5)) (G8 r a1 a2 l v (some (.loc S.length)) (some (.int (nst r e))) a7) (S++[(wk r d 103 v).map rD])=.ok ((wk r d 103 v).reverse.map rD,[]) (S++[(wk r d 103 v).map rD]):=by
   refine qk ?_;rw[zeS,vr (d:=.loc S.length) rfl,Rb];simp[Dd.listOf]
  rw[xz,z1b,it,Rb];exact lp
 ·rw[ht];exact .head _
 ·rw[ht,_ax,z4s,zab (λz=>?_),za1 t.reverse d (λw hw=>by have:=low w hw;omega)];rw[zaa t.reverse d (λw=>by have:=low v w;omega)];exact new z
abbrev H8(r:Rl)(n b:Nat)(s:Sto)(a4 a5 a6 a7:Option D):Ev:=F8 (some (.str (nmR r))) (some (.int n)) (some (.int b)) (some (.dlo s.length)) a4 a5 a6 a7
theorem z1Z {n b:Nat} (r:Rl) (hn:Sz n) (hb:b<=30) (hb2:(b+1) ^ n<=90000) {M:Nat} (hM:∀v,Lt n b v->nst r v<=M) (s:Sto):∃d S',yT [.str (nmR r),.int n,.int b] s=.ok (.dlo s.length) S'/\Dk n b d/\Ok r d/\S'[s.length]? = some (encD d)/\(∀v,Lt n b v->(ve d (K v)).isSome=true)/\flt r M d=(every n b).filter (λw=>decide (nst r w=M))/\∀j,j<s.length->S'[j]? = s[j]? := by
 have tb:=zcN (n:=n) (m:=b) (by unfold Sz at hn;omega) hb hb2 (s++[Dd.encD []]);have ndE:(every n b).Nodup:=(zaK n b).nodup.drop;obtain⟨Z',S',lp,b4,b5,b6,b7,d,hZ,h1,h2,h3,h5,h6,h7,h8⟩:=jE (all:=(every n b).map rD) (body:=zib) (λi Z S'=>∃b4 b5 b6 b7 d,Z=H8 r n b s b4 b5 b6 b7/\Dk n b d/\Ok r d/\S'[s.length]? = some (encD d)/\(∀v∈(every n b).take i,(ve d (K v)).isSome=true)/\flt r M d=((every n b).take i).filter (λw=>decide (nst r w=M))/\s.length<S'.length/\∀j,j<s.length->S'[j]? = s[j]?) ((every n b).map rD) 0 (by
  intro i x hx Z S1 ⟨b4,b5,b6,b7,d,hZ,h1,h2,h3,h5,h6,h7,h8⟩;subst hZ;rw[_E]at h5 h6 ⊢;rw[_V,_w]at hx;obtain⟨v,hv,rfl⟩:=hx;have ts:(every n b).take (i+1)=(every n b).take i++[v]:=by rw[_b0,hv];rfl
  have hvL:=(z2u hn).mp (_C hv);have notin:v∉(every n b).take i:=λz=>by
   have nd:((every n b).take (i+1)).Nodup:=(_cK (i+1) (every n b)).nodup ndE;rw[ts,_cP]at nd;exact nd.2.2 v z v (by simp) rfl
  obtain⟨c5,c6,c7,d',S',e,k1,k2,k3,k4,k5,k6,k7,k8⟩:=zaB (r:=r) hn hb hb2 hvL (hM v hvL) h1 h2 h3 (λz=>by cases q:ve d (K v) with
   | none=>rfl | some u=>
    refine absurd ?_ notin;have:v∈flt r M d:=by
     unfold flt;rw[_bk];refine⟨?_,by simpa using z⟩;rw[_bj];exact _J.mpr ⟨_,z7T q,z8N v⟩
    rw[h6]at this;exact (_bk.mp this).1) (some (.int n)) (some (.int b)) b4 b5 b6 b7;refine⟨_,S',e,_,_,_,_,d',rfl,k1,k2,k3,λw hw=>?_,?_,by omega,λj hj=>by rw[k8 j (by omega) (by omega),h8 j hj]⟩
  ·rw[ts]at hw;rcases _H.mp hw with hw | hw;·exact k4 _ (h5 w hw)
   ·rw[_aU.mp hw];exact k5
  ·rw[k6,h6,ts,_bP];by_cases z:nst r v=M;·simp[z]
   ·simp[z]) (H8 r n b s none none none none) (s++[Dd.encD []]) ⟨_,_,_,_,[],rfl,⟨List.Pairwise.nil,by simp⟩,λp hp=>by simp at hp,by simp,by simp,by simp[flt],by simp,λj hj=>by rw[_o hj]⟩;rw[_E,_I,List.take_length]at h5 h6;refine⟨d,S',?_,h1,h2,h3,λv hv=>h5 v ((z2u hn).mpr hv),h6,h8⟩;have f1:xy (F8 (some (.str (nmR r))) (some (.int n)) (some (.int b)) none none none none none) s=.ok (.nx (H8 r n b s none none none none)) (s++[Dd.encD []]):=rfl;have it:vx (eSl (zi yb (za (zc 1) (za (eC (.int 0)) (za (zc 2) zk)))) (uT (eC (.int 1))) yW) (H8 r n b s none none none none) (s++[Dd.encD []])=.ok ((every n b).map rD,[]) (s++[Dd.encD []]):=by
  refine qk ?_;have sl:dSl (.lst ((kH n b).map rD)) (some ((1:Nat):Int)) none (s++[Dd.encD []])=.ok (.lst ((every n b).map rD)) (s++[Dd.encD []]):=by
   have e:=z56 ((kH n b).map rD) 1 (s++[Dd.encD []]);have e2:Dd.cutD ((kH n b).map rD) (some ((1:Nat):Int)) none=((kH n b).map rD).drop 1:=by simpa[dSl] using e
   simp only[dSl,Dd.listOf,e2];rw[every,List.map_drop]
  generalize (kH n b).map rD=A at *;generalize (every n b).map rD=B at *;rw[z9G,z0x (x:=.int n) (y:=.int 0) (z:=.int b) (vr rfl) rfl (vr rfl),tb,Rb];simp only[z0u,z25,uP,Rb];exact sl
 have f2:yN (H8 r n b s none none none none) (s++[Dd.encD []])=.ok (.nx Z') S':=by
  rw[yN,z1b,it,Rb];exact lp
 rw[hZ]at f2;have key:∀(dr dn db:D) (b4 b5 b6 b7:Option D),xy (F8 (some dr) (some dn) (some db) none none none none none) s=.ok (.nx (F8 (some dr) (some dn) (some db) (some (.dlo s.length)) none none none none)) (s++[Dd.encD []])->yN (F8 (some dr) (some dn) (some db) (some (.dlo s.length)) none none none none) (s++[Dd.encD []])=.ok (.nx (F8 (some dr) (some dn) (some db) (some (.dlo s.length)) b4 b5 b6 b7)) S'->yT [dr,dn,db] s=.ok (.dlo s.length) S':=λdr dn db b4 b5 b6 b7 k1 k2=>by
  have st:zt ["rule","size","most","steps","lot","path","many","behind"] [dr,dn,db]=F8 (some dr) (some dn) (some db) none none none none none:=rfl;simp only[yT,Mof,jo,st,_g,_i,_G];rw[zq k1,zq k2];rfl
 exact key _ _ _ _ _ _ _ f1 f2
noncomputable def mx(r:Rl)(n b:Nat):Int:=maxL ((every n b).map λv=>(nst r v:Int))
theorem zjZ{n b:Nat}{r:Rl}(hn:Sz n){v:List Int}(h:Lt n b v):(nst r v:Int)<=mx r n b:=maxL_ge _ (_J.mpr ⟨v,(z2u hn).mpr h,rfl⟩)
theorem zfi{α:Type}{fi:FI}{mp:List (Option Nat)}{fg:FG}{ft:FT}{fe:FE}{Z:Ev}{s s1:Sto}(g f:α->D)(p:α->Bool)(ev:α->Ev)(l:List α) (hi:fi Z s=.ok (l.map g,[]) s1)(hg:∀a∈l,fg (g a) (yh mp Z) s1=.ok (ev a) s1)(ht:∀a∈l,ft (ev a) s1=.ok (p a) s1)(he:∀a∈l,p a=true->fe (ev a) s1=.ok (f a) s1)(hl:l.length<=cap): xQ fi mp fg ft fe Z s=.ok (.lst ((l.filter p).map f)) s1:=by
 rw[z8E,z7z,hi,Rb];rw[qT g f p l [] (by
  intro a ha;simp only[hg a ha,ht a ha,Rb];cases hp:p a with
  | true=>simp[he a ha hp] | false=>simp) (by simpa using hl)];rfl
abbrev W5(a0 a1 a2 a3 a4:Option D):Ev:=[a0,a1,a2,a3,a4]
theorem jR:LeM xR zD:=LeM.mof (LeS.if_ LeS.fNo LeS.rfl)
theorem z0G:LeM vC zX:=LeM.mof (LeS.if_ LeS.fNo LeS.rfl)
theorem z1G:LeM yT wF:=LeM.mof (LeS.seq LeS.calm (LeS.seq LeS.calm LeS.calm))
end Pt
namespace Pr
open L2 Dd Pm Pg Pn Po Pp
abbrev E5(a0 a1 a2 a3 a4:Option D):Ev:=[a0,a1,a2,a3,a4]
def cms(r:Rl)(g:List Int)(m:Nat)(v:List Int):Bool:=decide (maxL v<=(m:Int))&&(!ended v&&decide (stp r v=g))
theorem Lot.small{n m:Nat}{v:List Int}(h:Lot n v)(hm:m<=900)(hv:maxL v<=(m:Int)):z9Q n 10 v:=⟨h,λx hx=>by
 have:=maxL_ge (xs:=v) x hx;have e:(2:Int) ^ 10=1024:=by decide
 omega⟩
end Pr
namespace Pp
open L2 Dd Pm Pg Pn
end Pp
namespace Pr
open L2 Dd Pm Pg Pn Po Pp
def zgT:List Rl:=[.nx,.le,.al,.tu]
theorem zcP(s:Sto):yE [] s=.ok (.lst (zgT.map λr=>D.str (nmR r))) s:=by
 have c4:(4:Nat)<=cap:=by decide
 have st:zt [] []=[]:=rfl;simp only[yE,Mof,qH,st,_i,_G,uL,xg,wo,zo,zH,z25,Rb,_g,_E,Nat.reduceAdd,_e c4];rfl
theorem zgZ(n:Nat)(b:Nat):∃k:Nat,(if (if (b:Int)<(n:Int) then (b:Int) else n) > 1 then (if (b:Int)<(n:Int) then (b:Int) else n) else 1)=(k:Int)/\k<=b+1:=by
 by_cases h:(b:Int)<n
 ·rw[_e h];by_cases h2:(b:Int) > 1;·exact⟨b,by rw[_e h2],by omega⟩
  ·exact⟨1,by rw[_j h2];rfl,by omega⟩
 ·rw[_j h];by_cases h2:(n:Int) > 1;·exact⟨n,by rw[_e h2],by omega⟩
  ·exact⟨1,by rw[_j h2];rfl,by omega⟩
end Pr
namespace K73
open L2 Dd Pm Pg Pn Pp
theorem isx{c T:Str}{Z:Ev}{s:Sto}(hc:c∈rsX)(h:Z[0]? = some (some (.exc c))):z1r rsX T (zc 0) Z s=.ok (.bl (c==T)) s:=by
 show (zc 0 Z s).bind _=_;rw[vr h,Rb,zjs,_e hc]
def zca(c:Str):List Bool:=[c=="NoLot",c=="NoRule",c=="Ended",c=="NoBottom",c=="NoRoot",c=="NoCube",c=="NoSize",c=="NoNumber",c=="TooMany",c=="NoTable",c=="NoTuple",c=="NotAlike"]
def bl4(c:Str):List Bool:=[c=="NotFair",c=="NoText",c=="NoStep",c=="NoDeed"]
theorem zc4 {c w:Str} {k:Nat} (hc:c∈rsX) (h1:(zca c++bl4 c++[c=="NoRow"]).count true=1) (hk:(zca c++bl4 c++[c=="NoRow"]).idxOf true=k) (hm:true∈zca c++bl4 c++[c=="NoRow"]) (hw:([.str "lot",.str "rule",.str "ended",.str "bottom",.str "root",.str "cube",.str "size",.str "number",.str "many",.str "no",.str "no",.str "no",.str "no",.str "no",.str "no",.str "no",.str "no"]:List D)[k]? = some (.str w)) (s:Sto): ∃more,zJ [.exc c] s=.ok (.str w) (s++more):=by
 have st:zt ["_law_e","_law_some","_law_words"] [.exc c]=[some (.exc c),none,none]:=rfl;have c4:(4:Nat)<=cap:=by decide
 have c8:(8:Nat)<=cap:=by decide
 have c12:(12:Nat)<=cap:=by decide
 have c16:(16:Nat)<=cap:=by decide
 have x:∀T (a b:Option D) s,z1r rsX T (zc 0) [some (.exc c),a,b] s=.ok (.bl (c==T)) s:=λT a b s=>isx hc rfl;have f1:wY [some (.exc c),none,none] s=.ok (.nx [some (.exc c),some (.lst [.bl (c=="NoLot"),.bl (c=="NoRule"),.bl (c=="Ended"),.bl (c=="NoBottom")]),none]) s:=by
  rw[wY,ya];simp only[wo,zo,zH,x,Rb,_g,_i,_E,Nat.reduceAdd,_e c4];rfl
 have f2:wN [some (.exc c),some (.lst [.bl (c=="NoLot"),.bl (c=="NoRule"),.bl (c=="Ended"),.bl (c=="NoBottom")]),none] s=.ok (.nx [some (.exc c),some (.lst [.bl (c=="NoLot"),.bl (c=="NoRule"),.bl (c=="Ended"),.bl (c=="NoBottom"),.bl (c=="NoRoot"),.bl (c=="NoCube"),.bl (c=="NoSize"),.bl (c=="NoNumber")]),none]) s:=by
  rw[wN,ya,wB];simp only[wo,zo,zH,x,Rb,xV,_t,_u,_g,_i,_E,Nat.reduceAdd,_e c4,z5Z,_e c8];rfl
 have q3:wV [some (.exc c),some (.lst [.bl (c=="NoLot"),.bl (c=="NoRule"),.bl (c=="Ended"),.bl (c=="NoBottom"),.bl (c=="NoRoot"),.bl (c=="NoCube"),.bl (c=="NoSize"),.bl (c=="NoNumber")]),none] s=.ok (.nx [some (.exc c),some (.lst ((zca c).map D.bl)),none]) s:=by
  rw[wV,ya,wB];simp only[wo,zo,zH,x,Rb,xV,_t,_u,_g,_i,_E,Nat.reduceAdd,_e c4,z5Z,_e c12];rfl
 have l12:((zca c).map D.bl).length=12:=rfl;have fl:D.flat.flats ((zca c).map D.bl++(bl4 c).map D.bl)=true:=rfl;have fl4:D.flat.flats ((bl4 c).map D.bl)=true:=rfl;generalize hL:(zca c).map D.bl=L at q3 l12 fl;have at1:(s++[(bl4 c).map D.bl])[s.length]? = some ((bl4 c).map D.bl):=by simp
 have q4:wU [some (.exc c),some (.lst L),none] s=.ok (.nx [some (.exc c),some (.loc (s.length+1)),none]) (s++[(bl4 c).map D.bl]++[L++(bl4 c).map D.bl]):=by
  rw[wU,ya,wB,vr (d:=.lst L) rfl,Rb];have e:zek (za (z1r rsX "NotFair" (zc 0)) (za (z1r rsX "NoText" (zc 0)) (za (z1r rsX "NoStep" (zc 0)) (za (z1r rsX "NoDeed" (zc 0)) zk)))) [some (.exc c),some (.lst L),none] s=.ok (.loc s.length) (s++[(bl4 c).map D.bl]):=by
   simp only[zbG,zo,zH,x,Rb,_g,_i,_E,Nat.reduceAdd];rw[_e ⟨c4,rfl⟩];rfl
  rw[e,Rb];simp only[zd0,Dd.listOf,at1];rw[_e ⟨by rw[l12];show 12+4<=cap;decide,fl⟩];simp
 let ns:=zca c++bl4 c++[c=="NoRow"];have hns:L++(bl4 c).map D.bl++[.bl (c=="NoRow")]=ns.map D.bl:=by rw[<- hL];simp[ns]
 have q5:wQ [some (.exc c),some (.loc (s.length+1)),none] (s++[(bl4 c).map D.bl]++[L++(bl4 c).map D.bl])=.ok (.nx [some (.exc c),some (.loc (s.length+1)),none]) (s++[(bl4 c).map D.bl]++[ns.map D.bl]):=by
  have at2:(s++[(bl4 c).map D.bl]++[L++(bl4 c).map D.bl])[s.length+1]? = some (L++(bl4 c).map D.bl):=by rw[_O (by simp)];simp
  rw[wQ,xB,zbO,vr (d:=.loc (s.length+1)) rfl,Rb];simp only;rw[x,Rb];simp only[at2];rw[_e ⟨rfl,by rw[_M,l12];show 12+4<cap;decide⟩,Rb,hns];have:=zeP (s:=s++[(bl4 c).map D.bl]) (x:=L++(bl4 c).map D.bl) (y:=ns.map D.bl);rw[_M]at this;rw[show s.length+1=s.length+[(bl4 c).map D.bl].length from rfl,this]
 have at3:(s++[(bl4 c).map D.bl]++[ns.map D.bl])[s.length+1]? = some (ns.map D.bl):=by rw[_O (by simp)];simp
 have bn:bools (ns.map D.bl)=some ns:=z1O _;refine⟨[(bl4 c).map D.bl]++[ns.map D.bl],?_⟩;rw[<- _a1];generalize s++[(bl4 c).map D.bl]++[ns.map D.bl]=s' at q5 at3;have q6:wZ [some (.exc c),some (.loc (s.length+1)),none] s'=.ok (.nx [some (.exc c),some (.loc (s.length+1)),none]) s':=by
  rw[wZ,zd4];·rfl
  ·refine zgt (vN ?_) (zg7 (vN ?_))
   ·rw[op2 (x:=.int 1) (y:=.int 1) (by
     show (zc 1 _ s').bind _=_;rw[vr (d:=.loc (s.length+1)) rfl,Rb];simp only[z25,Rb,at3,_A,bn];rw[show ns.count true=1 from h1];rfl) rfl];rfl
   ·show (zc 0 _ s').bind _=_;rw[vr (d:=.exc c) rfl,Rb,zjt,_e hc]
 have q8:wR [some (.exc c),some (.loc (s.length+1)),none] s'=.ok (.nx [some (.exc c),some (.loc (s.length+1)),some (.lst [.str "lot",.str "rule",.str "ended",.str "bottom",.str "root",.str "cube",.str "size",.str "number",.str "many"])]) s':=by
  rw[wR,ya];rfl
 have q9:wT [some (.exc c),some (.loc (s.length+1)),some (.lst [.str "lot",.str "rule",.str "ended",.str "bottom",.str "root",.str "cube",.str "size",.str "number",.str "many"])] s'=.ok (.rt (.str w)) s':=by
  have e1:eOp vt (zc 2) (eOp zjo (ue (za (eC (.str "no")) zk)) (eC (.int 8))) [some (.exc c),some (.loc (s.length+1)),some (.lst [.str "lot",.str "rule",.str "ended",.str "bottom",.str "root",.str "cube",.str "size",.str "number",.str "many"])] s'=.ok (.lst [.str "lot",.str "rule",.str "ended",.str "bottom",.str "root",.str "cube",.str "size",.str "number",.str "many",.str "no",.str "no",.str "no",.str "no",.str "no",.str "no",.str "no",.str "no"]) s':=rfl;have e2:z7M (zc 1) (eC (.bl true)) [some (.exc c),some (.loc (s.length+1)),some (.lst [.str "lot",.str "rule",.str "ended",.str "bottom",.str "root",.str "cube",.str "size",.str "number",.str "many"])] s'=.ok (.int (k:Nat)) s':=by
   show (zc 1 _ s').bind _=_;rw[vr (d:=.loc (s.length+1)) rfl,Rb];simp only[z25,Rb,at3,_A,bn];rw[_e ⟨hm,by simp[ns,zca,bl4]⟩,show ns.idxOf true=k from hk]
  rw[wT,xg,op2 e1 e2,z5O (d:=.str w) (by omega) (by simpa using hw)];rfl
 simp only[zJ,Mof,jk,st,_g,_i,_G];rw[zq f1,zq f2,zq q3,zq q4,zq q5,zq q6,zq q8,q9]
theorem zde(s:Sto):∃more,zJ [.exc "NoLot"] s=.ok (.str "lot") (s++more):=zc4 (k:=0) (by decide +kernel) (by decide +kernel) (by decide +kernel) (by decide +kernel) rfl s
theorem z5p(s:Sto):∃more,zJ [.exc "NoRule"] s=.ok (.str "rule") (s++more):=zc4 (k:=1) (by decide +kernel) (by decide +kernel) (by decide +kernel) (by decide +kernel) rfl s
theorem zbE(s:Sto):∃more,zJ [.exc "NoSize"] s=.ok (.str "size") (s++more):=zc4 (k:=6) (by decide +kernel) (by decide +kernel) (by decide +kernel) (by decide +kernel) rfl s
theorem z2d(s:Sto):∃more,zJ [.exc "NoNumber"] s=.ok (.str "number") (s++more):=zc4 (k:=7) (by decide +kernel) (by decide +kernel) (by decide +kernel) (by decide +kernel) rfl s
theorem z6b(s:Sto):∃more,zJ [.exc "TooMany"] s=.ok (.str "many") (s++more):=zc4 (k:=8) (by decide +kernel) (by decide +kernel) (by decide +kernel) (by decide +kernel) rfl s
theorem zaH {w x y z:D} {s s':Sto} (ht:s'.take s.length=s) (h:yu [some w,some x,some y,some z,none] s=.ok (.nx [some w,some x,some y,some z,none]) s'):zf [w,x,y,z] s=.ok (.str "told") s:=by
 have st:zt ["_law_way","_law_rule","_law_one","_law_other","_law_e"] [w,x,y,z]=[some w,some x,some y,some z,none]:=rfl;simp only[zf,z78,Mof,ja,st,_g,_i,_G];rw[zq (Z':=[some w,some x,some y,some z,none]) (s':=s') (by simp only[qa,zah];rw[h])];simp only[z02,xg,z25,Rb];rw[z0s rfl,ht]
theorem z7q {w x y z:D} {s t:Sto} {c k:Str} (hc:c∈rsX) (hk:∃more,zJ [.exc c] (s++t)=.ok (.str k) (s++t++more)) (h:yu [some w,some x,some y,some z,none] s=.ex c (s++t)):zf [w,x,y,z] s=.ok (.str k) s:=by
 have st:zt ["_law_way","_law_rule","_law_one","_law_other","_law_e"] [w,x,y,z]=[some w,some x,some y,some z,none]:=rfl;obtain⟨more,hk⟩:=hk;have e9:uY ((List.replicate 5 none).set 4 (some (.exc c))) (s++t)=.ok (.rt (.str k)) (s++t++more):=by rw[uY,xg,ud (x:=.exc c) (by rfl),hk];rfl
 simp only[zf,z78,Mof,ja,st,_g,_i,_G];rw[z3T (s':=s++t++more) (d:=.str k) (by
  simp only[qa,zah];rw[h];simp only[_e hc,_g,_i,_E,Nat.reduceAdd];rw[e9])];simp only[];rw[z0s rfl,_a1,List.take_left'];rfl
theorem jD{w x y z:D}{s:Sto}{c k:Str}(hc:c∈rsX)(hk:∃more,zJ [.exc c] s=.ok (.str k) (s++more))(h:yu [some w,some x,some y,some z,none] s=.ex c s):zf [w,x,y,z] s=.ok (.str k) s:= z7q (t:=[]) hc (by simpa using hk) (by simpa using h)
section
variable {x y z:D}{s:Sto}
theorem way{k:Nat}{f:Str}{X:Mir}(h0:dIx (.lst [.fn "lots_to",.fn "least_with"]) (.int k) s=.ok (.fn f) s)(hx:List.lookup f [("lots_to",ye),("least_with",zU)]=some X): yu [some (.int k),some x,some y,some z,none] s=(X [x,y,z] s).bind λ_ s1=>.ok (.nx [some (.int k),some x,some y,some z,none]) s1:=by
 have c2:(2:Nat)<=cap:=by decide
 rw[yu,xB];simp only[z8z,wB,wo,zo,zH,z25,xV,_u,_t,Rb,_g,_i,_E,Nat.reduceAdd,_e c2,h0,hx]
theorem w0:yu [some (.int 0),some x,some y,some z,none] s=(ye [x,y,z] s).bind λ_ s1=>.ok (.nx [some (.int 0),some x,some y,some z,none]) s1:=way (k:=0) rfl rfl
theorem w1:yu [some (.int 1),some x,some y,some z,none] s=(zU [x,y,z] s).bind λ_ s1=>.ok (.nx [some (.int 1),some x,some y,some z,none]) s1:=way (k:=1) rfl rfl
end
open Po Pr Pt
theorem zg5{s S:Sto}(hl:s.length<=S.length)(h:∀k,k<s.length->S[k]? = s[k]?):S.take s.length=s:=by
 apply List.ext_getElem?;intro k;rw[List.getElem?_take];split;·exact h k (by assumption)
 ·rw[_az (by omega)]
theorem z57:∀(p:NP)(L:List NP),z9N p L∈p::L
 | p,[]=>.head _ | p,q::L=>by
  rw[z9N];split;·exact .tail _ (z57 q L)
  ·rcases _q.mp (z57 p L) with h | h;·rw[h];exact .head _
   ·exact .tail _ (.tail _ h)
theorem z5E {n:Nat} (hn:Sz n) (hn3:n<=3) (r:Rl) {st:Nat} (hst:st<=12) (s:Sto):∃o S',ug [.str (nmR r),.int n,.int st] s=.ok o S'/\S'.take s.length=s:=by
 have n2:2<=n:=by unfold Sz at hn;omega
 have hb2:(16+1) ^ n<=90000:=by
  have h4:(16+1) ^ n<=(16+1) ^ 3:=_ar (by decide) hn3;have h5:((16:Nat)+1) ^ 3=4913:=by decide
  omega
 have w1:=vK r s;have w2:=Pt.z2p (b:=3) n2 hn3 s;have w3:=z3P (x:=(st:Int)) (a:=0) (b:=12) (by omega) (by omega) s;obtain⟨d,S',e,dk,ok,hl,all,fl,fr⟩:=z1Z r hn (b:=16) (by decide) hb2 (M:=(mx r n 16).toNat) (λv hv=>by have:=zjZ (r:=r) hn hv;omega) s;have dl:d.length<=4913:=by
  have h1:=dk.len hn;have h4:(16+1) ^ n<=(16+1) ^ 3:=_ar (by decide) hn3;have h5:((16:Nat)+1) ^ 3=4913:=by decide
  omega
 have lS:s.length<S'.length:=(_c.mp hl).1;have hF:(S'.set s.length (.non::Dd.encD d))[s.length]? = some (.non::Dd.encD d):=_L lS;have keys:∀v∈d.map (λp=>unK p.1),Lt n 16 v/\ve d (K v)=some (.int (nst r v)):=λv hv=>by
  obtain⟨p,hp,rfl⟩:=_J.mp hv;obtain⟨w,hw,e1,_⟩:=dk.key p hp;obtain⟨u,hu⟩:=zbj hp;rw[e1]at hu;simp only[e1,z8N];exact⟨hw,by rw[hu,ok.val hu]⟩
 have kD:z45 d=(d.map λp=>unK p.1).map rD:=by
  rw[z45,_bj];refine _a7 λp hp=>?_;obtain⟨w,hw,e1,_⟩:=dk.key p hp;simp only[Function.comp,e1,z8N];exact zdw w
 have ll:(d.map λp=>unK p.1).length<=4913:=by simpa using dl
 have decd:zf3 (Dd.encD d)=some d:=z4a dk.all;generalize hL:(d.map λp=>unK p.1)=L at *;have dg:∀v∈L,qV (S'.set s.length (.non::Dd.encD d)) (.dlo s.length) (rD v)=some (some (.int (nst r v))):=λv hv=>by rw[ziP dk hF,(keys v hv).2]
 have it:∀Z:Ev,Z[3]? = some (some (.dlo s.length))->z9F (zc 3) Z S'=.ok (L.map rD,[]) (S'.set s.length (.non::Dd.encD d)):=λZ hZ=>by
  rw[zfk,vr hZ,Rb];simp only[hl,_A,decd];rw[kD]
 have frT:(S'.set s.length (.non::Dd.encD d)).take s.length=s:=zg5 (by rw[_bK];omega) λk hk=>by rw[_B (by omega),fr k hk]
 generalize S'.set s.length (.non::Dd.encD d)=T at *;have c:=zfi (s:=S') (s1:=T) (Z:=W5 (some (.str (nmR r))) (some (.int n)) (some (.int st)) (some (.dlo s.length)) none) (fi:=z9F (zc 3)) (mp:=[some 2,some 3,none]) (fg:=kb 2) (ft:=tOf (eOp dEq (zc3 (zc 1) (zc 2)) (zc 0))) (fe:=qM (za (zi wl (za (zc 2) zk)) (za (zc 2) zk))) rD (λv=>Dd.pairD (maxL v,v)) (λv=>decide (nst r v=st)) (λv=>[some (.int st),some (.dlo s.length),some (rD v)]) L (it _ rfl) (λv _=>rfl) (λv hv=>vN (by rw[op2 (x:=.int (nst r v)) (y:=.int st) (by rw[zfO,vr (d:=.dlo s.length) rfl,Rb,vr (d:=rD v) rfl,Rb,dg v hv];rfl) (vr rfl),z9c,show decide ((nst r v:Int)=(st:Int))=decide (nst r v=st) from decide_eq_decide.mpr (by omega)])) (λv hv _=>by
   have mx:wl [rD v] T=.ok (.int (maxL v)) T:=z0T T (keys v hv).1.lot.ne;have k2:∀x:D,wl [x] T=.ok (.int (maxL v)) T->qM (za (zi wl (za (zc 2) zk)) (za (zc 2) zk)) [some (.int st),some (.dlo s.length),some x] T=.ok (.tup [.int (maxL v),x]) T:=λx hx=>by
    rw[uH,zo,ud (x:=x) (vr rfl),hx,Rb,zo,vr (d:=x) rfl,Rb,zH];simp only[Rb];rw[_e (by simp[cap])]
   exact k2 _ mx) (by unfold cap;omega);have e5:(L.filter λv=>decide (nst r v=st)).map (λv=>Dd.pairD (maxL v,v))=((L.filter λv=>decide (nst r v=st)).map λv=>(maxL v,v)).map Dd.pairD:=by rw[_bj];rfl
 rw[e5]at c;generalize L.filter (λv=>decide (nst r v=st))=F at *;have key:∀(dr dn ds y:D),yH [dr] s=.ok .non s->vC [dn,.int 3] s=.ok .non s->xR [ds,.int 0,.int 12] s=.ok .non s->yT [dr,dn,.int 16] s=.ok (.dlo s.length) S'->xq (W5 (some dr) (some dn) (some ds) (some (.dlo s.length)) none) S'=.ok (.nx (W5 (some dr) (some dn) (some ds) (some (.dlo s.length)) (some (.lst ((F.map λv=>(maxL v,v)).map Dd.pairD))))) T->wG (W5 (some dr) (some dn) (some ds) (some (.dlo s.length)) (some (.lst ((F.map λv=>(maxL v,v)).map Dd.pairD)))) T=.ok (.rt y) T->ug [dr,dn,ds] s=.ok y T:=λdr dn ds y h1 h2 h3 h4 h5 h6=>by
  have st:zt ["rule","size","steps","many","found"] [dr,dn,ds]=W5 (some dr) (some dn) (some ds) none none:=rfl;simp only[ug,Mof,z09,st,_g,_i,_G];rw[zq (Z':=W5 (some dr) (some dn) (some ds) none none) (s':=s) (by rw[jW,xB,ud (x:=dr) (vr rfl),h1];rfl)];rw[zq (Z':=W5 (some dr) (some dn) (some ds) none none) (s':=s) (by rw[jN,xB,call2 (x:=dn) (y:=.int 3) (vr rfl) rfl,h2];rfl)];rw[zq (Z':=W5 (some dr) (some dn) (some ds) none none) (s':=s) (by rw[jL,xB,z0x (x:=ds) (y:=.int 0) (z:=.int 12) (vr rfl) rfl rfl,h3];rfl)];rw[zq (Z':=W5 (some dr) (some dn) (some ds) (some (.dlo s.length)) none) (s':=S') (by rw[jU,ya,z0x (x:=dr) (y:=dn) (z:=.int 16) (vr rfl) (vr rfl) rfl,h4];rfl)];rw[zq h5,h6]
 have f5:xq (W5 (some (.str (nmR r))) (some (.int n)) (some (.int st)) (some (.dlo s.length)) none) S'=.ok (.nx (W5 (some (.str (nmR r))) (some (.int n)) (some (.int st)) (some (.dlo s.length)) (some (.lst ((F.map λv=>(maxL v,v)).map Dd.pairD))))) T:=by
  rw[xq,ya,c];rfl
 cases F with
 | nil=>
  refine⟨.non,T,key _ _ _ _ w1 w2 w3 e f5 ?_,frT⟩;rfl | cons v F=>
  have mm:=z57 (maxL v,v) (F.map λv=>(maxL v,v));rw[<- _v (f:=λv=>(maxL v,v))]at mm;obtain⟨u,hu,eu⟩:=_J.mp mm;refine⟨rD u,T,key _ _ _ _ w1 w2 w3 e f5 ?_,frT⟩;have pn:=z7Z (((v::F).map λv=>(maxL v,v)));have gm:z9Z [.lst (((v::F).map λv=>(maxL v,v)).map Dd.pairD)] T=.ok (Dd.pairD (maxL u,u)) T:=by
   rw[eu];simp only[z9Z,zW,_A];rw[pn];rfl
  have ne:(((v::F).map λv=>(maxL v,v)).map Dd.pairD).isEmpty=false:=rfl;generalize ((v::F).map λv=>(maxL v,v)).map Dd.pairD=X at *;rw[wG,xg,zbu,zj0,vr (d:=.lst X) rfl,Rb];simp only[Dd.listOf,ne,Rb];rw[_e (by rfl),op2 (x:=Dd.pairD (maxL u,u)) (y:=.int 1) (by rw[ud (x:=.lst X) (vr rfl)];exact gm) rfl];rfl
theorem zbL {w:List Int} {b m k:Nat} (hb:b<w.length) (h0:∀x∈w,0<=x):(xa ((zP w b m).take k)).length<=(m+1) ^ (w.length-1):=by
 have cl:=qo w b m;have cle:=z3M (b:=b) (m:=m) h0;by_cases hk:k<w.length
 ·have h2:=z2U ((zP w b m).take k) (k:=m+1) λc hc=>cle c (_aQ hc);have h3:(m+1) ^ ((zP w b m).take k).length<=(m+1) ^ (w.length-1):=_ar (by omega) (by simp;omega);omega
 ·rw[_bi (by omega)];have:=zat (k:=m+1) (by omega) (zP w b m) cle b (by rw[cl];exact hb) (by rw[vP hb,_e rfl];simp);rwa [cl]at this
theorem z8C {m:Nat} {w:List Int} {b:Nat} (hm:m<=30) (hp:(m+1) ^ (w.length-1)<=90000) (h4:w.length<=4) (hb:b<w.length) (h0:∀x∈w,0<=x) (h1:∀x∈w,x<=1000) (s:Sto):wA [rD w,.int b,.int m] s=.ok (.lst ((z0A w b m).map rD)) s:=by
 have ixb:dIx (rD w) (.int b) s=.ok (.int (w.getD b 0)) s:=z88 s hb;have wb0:=h0 _ (Pm.getD_mem hb);have wb1:=h1 _ (Pm.getD_mem hb);have en:=λZ=>zcs (v:=w) (f:=zc 0) (Z:=Z) (s:=s);generalize hd:rD w=d at ixb en;have st:zt ["lot","by","most","found","at","number","numbers"] [d,.int b,.int m]=[some d,some (.int b),some (.int m),none,none,none,none]:=rfl;unfold wA Mof z0M;rw[_e (by rfl),st];have t1:tOf (eOp dEq (eOp dIx (zc 0) (zc 1)) (eC (.int 0))) [some d,some (.int b),some (.int m),none,none,none,none] s=.ok (decide (w.getD b 0=0)) s:=by
  refine vN ?_;rw[op2 (x:=.int (w.getD b 0)) (y:=.int 0) (by rw[op2 (x:=d) (y:=.int b) (vr rfl) (vr rfl)];exact ixb) rfl,z9c]
 unfold z0A;by_cases q:w.getD b 0=0
 ·rw[_e q,z3T (d:=.lst [d]) (s':=s) (by
   rw[qd,zaX (by rw[t1,_aq q]),z05,xg,wo,zo,vr (d:=d) rfl,Rb,zH];simp[cap])];rw[<- hd];rfl
 ·rw [_j q,zq (Z':=[some d,some (.int b),some (.int m),none,none,none,none]) (s':=s) (by rw[qd,zd4 (by rw[t1,_X q])];rfl)];rw[zq (Z':=[some d,some (.int b),some (.int m),some (.lst ((xa []).map rD)),none,none,none]) (s':=s) (by
   rw[z00,ya,wo,zo,uH,zH];simp[cap,xa])];have clen:=qo w b m;have cle:=z3M (b:=b) (m:=m) h0;obtain⟨Z',s',lp,a4,a5,a6,hZ,rfl⟩:=jE (all:=(enP w).map λp=>D.tup [.int ((p.2:Nat):Int),.int p.1]) (body:=λx Z s=>(kw 4 5 x Z s).bind λZ' s'=>zF vm vh Z' s') (λi Z S=>∃a4 a5 a6,Z=[some d,some (.int b),some (.int m),some (.lst ((xa ((zP w b m).take i)).map rD)),a4,a5,a6]/\S=s) ((enP w).map λp=>D.tup [.int ((p.2:Nat):Int),.int p.1]) 0 (by
   intro i x hx Z S' ⟨a4,a5,a6,hZ,hS⟩;subst hZ hS;rw[_E];rw[_V,_w]at hx;obtain⟨p,hp,rfl⟩:=hx;have hi:i<w.length:=by have:=(_c.mp hp).1;simpa using this
   have ep:p=(w.getD i 0,i):=by
    have:=(_c.mp hp).2;rw[<- this];simp[_l,hi]
   subst ep;have x0:=h0 _ (Pm.getD_mem hi);have x1:=h1 _ (Pm.getD_mem hi);have ci:=vP (b:=b) (most:=m) hi;have ts:=take_snoc (l:=zP w b m) (i:=i) (d:=[]) (by omega);have f5:vm [some d,some (.int b),some (.int m),some (.lst ((xa ((zP w b m).take i)).map rD)),some (.int i),some (.int (w.getD i 0)),a6] S'=.ok (.nx [some d,some (.int b),some (.int m),some (.lst ((xa ((zP w b m).take i)).map rD)),some (.int i),some (.int (w.getD i 0)),some (.lst (iL ((zP w b m).getD i [])))]) S':=by
    rw[vm,ya,zbu,vN (b:=decide (i=b)) (by rw[op2 (x:=.int i) (y:=.int b) (vr rfl) (vr rfl),z9c];congr 2;exact decide_eq_decide.mpr (by omega)),Rb,ci];by_cases z:i=b
    ·rw[_e (by simpa using z),_e z,wo,zo,vr (d:=.int (w.getD i 0)) rfl,Rb,zH];simp[cap]
    ·rw[_j (by simpa using z),_j z,z0x (x:=.int (w.getD i 0)) (y:=.int (w.getD b 0)) (z:=.int m) (vr rfl) (by rw[op2 (x:=d) (y:=.int b) (vr rfl) (vr rfl)];exact ixb) (vr rfl),zhD _ x0 x1 wb0 wb1 (by omega)];rfl
   have f6:vh [some d,some (.int b),some (.int m),some (.lst ((xa ((zP w b m).take i)).map rD)),some (.int i),some (.int (w.getD i 0)),some (.lst (iL ((zP w b m).getD i [])))] S'=.ok (.nx [some d,some (.int b),some (.int m),some (.lst ((xa ((zP w b m).take (i+1))).map rD)),some (.int i),some (.int (w.getD i 0)),some (.lst (iL ((zP w b m).getD i [])))]) S':=by
    have eg:((xa ((zP w b m).take i)).flatMap λa=>((zP w b m).getD i []).map λz=>rD (a++[z]))=(xa ((zP w b m).take (i+1))).map rD:=by
     rw[ts,vp,z9M,List.map_flatMap];simp[_b1]
    have c:=z6e (fi:=vx (zc 3)) (mp:=[some 6,none,none]) (k1:=1) (k2:=2) (fi2:=vx (zc 0)) (fe:=eOp vt (zc 1) (qM (za (zc 2) zk))) (Z:=[some d,some (.int b),some (.int m),some (.lst ((xa ((zP w b m).take i)).map rD)),some (.int i),some (.int (w.getD i 0)),some (.lst (iL ((zP w b m).getD i [])))]) (s:=S') rD (λ_ z=>D.int z) (xa ((zP w b m).take i)) (λ_=>(zP w b m).getD i []) (λa z=>rD (a++[z])) (qk (vr rfl)) (λa ha=>qk (vr rfl)) (λa ha z hz=>by
      have al:=((qZ _ a).mp ha).1;rw[_by]at al;rw[op2 (x:=rD a) (y:=rD [z]) (vr rfl) (by
       rw[uH,zo,vr (d:=.int z) rfl,Rb,zH];simp[cap]),kQ,_e (by simp[cap];omega)];simp) (by
      rw[eg,_I];have:=zbL (b:=b) (m:=m) (k:=i+1) hb h0;unfold cap;omega);rw[eg]at c;rw[vh,ya,c];rfl
   exact⟨_,_,(zq f5).trans f6,_,_,_,rfl,rfl⟩) [some d,some (.int b),some (.int m),some (.lst ((xa []).map rD)),none,none,none] s ⟨none,none,none,by simp,rfl⟩;have ef:(zP w b m).take (0+((enP w).map λp=>D.tup [.int ((p.2:Nat):Int),.int p.1]).length)=zP w b m:=_bi (by simp[clen]);rw[ef]at hZ;rw[zq (Z':=Z') (s':=s') (by
   rw[kZ,z1b,en _ (vr rfl),Rb];exact lp),hZ];rfl
theorem zdv {n m:Nat} {g:List Int} (h:Lot n g) (hm:m<=30) (hp:(m+1) ^ (n-1)<=90000) (hg:∀x∈g,x<=1000) (r:Rl) (hr:r=.al\/r=.tu) (s:Sto):xU [.str (nmR r),rD g,.int m] s=.ok (.lst ((ahead r g m).map rD)) s:=by
 have l4:=h.le4;have hl:=h.len;have e1:=zbA r s;have e2:=zky r s;have mx:=z0T s h.ne;have hp':(m+1) ^ (g.length-1)<=90000:=by rw[hl];exact hp
 have u1:=z8C (w:=g.drop (g.length-1)++g.take (g.length-1)) (b:=0) hm (by rw[qW];exact hp') (by rw[qW];omega) (by rw[qW];omega) (z1M h).nn (λx hx=>hg x (z2M.mp hx)) s;have u2:=z8C (w:=g) (b:=g.idxOf (maxL g)) hm hp' (by omega) (z3N (maxL_mem h.ne)).1 h.nn hg s;have s1:eOp vt (eSl (zc 1) (uT (z3Z (eC (.int 1)))) yW) (eSl (zc 1) yW (uT (z3Z (eC (.int 1))))) [some (.str (nmR r)),some (rD g),some (.int m)] s=.ok (rD (g.drop (g.length-1)++g.take (g.length-1))) s:=by
  have ne:=h.ne;obtain⟨ps,q,rfl⟩:∃pre x,g=pre++[x]:=⟨g.dropLast,g.getLast ne,(_bn ne).symm⟩;have k1:=zeW ps q s;have k2:=zeV ps q s;rw[op2 (x:=rD [q]) (y:=rD ps) (by
   simp only[z9G,vr (d:=rD (ps++[q])) (i:=1) (Z:=[some (.str (nmR r)),some (rD (ps++[q])),some (.int m)]) rfl,Rb,uP,z0u,ze4,z25];exact k1) (by
   simp only[z9G,vr (d:=rD (ps++[q])) (i:=1) (Z:=[some (.str (nmR r)),some (rD (ps++[q])),some (.int m)]) rfl,Rb,uP,z0u,ze4,z25];exact k2),kQ,_e (by simp[cap]at *;omega)];simp
 have s2:zbH (zc 1) (zi wl (za (zc 1) zk)) [some (.str (nmR r)),some (rD g),some (.int m)] s=.ok (.int ((g.idxOf (maxL g):Nat):Int)) s:=z82 (vr rfl) (by rw[ud (x:=rD g) (vr rfl)];exact mx) (maxL_mem h.ne);have st:zt ["rule","lot","most"] [.str (nmR r),rD g,.int m]=[some (.str (nmR r)),some (rD g),some (.int m)]:=rfl;unfold xU Mof jM;rw[_e (by rfl),st];have t1:tOf (eOp dEq (zc 0) (eC (.str "turn"))) [some (.str (nmR r)),some (rD g),some (.int m)] s=.ok (decide (r=.tu)) s:=vN (by rw[op2 (x:=.str (nmR r)) (y:=.str "turn") (vr rfl) rfl];exact e1);have t2:tOf (eOp dEq (zc 0) (eC (.str "all"))) [some (.str (nmR r)),some (rD g),some (.int m)] s=.ok (decide (r=.al)) s:=vN (by rw[op2 (x:=.str (nmR r)) (y:=.str "all") (vr rfl) rfl];exact e2);by_cases z1:r=.tu;·rw[z3T (d:=.lst ((ahead r g m).map rD)) (s':=s) (by
   rw[vw,zaX (by rw[t1,_aq z1]),qY,xg,z0x (x:=rD (g.drop (g.length-1)++g.take (g.length-1))) (y:=.int ((0:Nat):Int)) (z:=.int m) s1 rfl (vr rfl),u1,z1];rfl)]
 ·rw[zq (Z':=[some (.str (nmR r)),some (rD g),some (.int m)]) (s':=s) (by rw[vw,zd4 (by rw[t1,_X z1])];rfl)];by_cases z2:r=.al;·rw[z3T (d:=.lst ((ahead r g m).map rD)) (s':=s) (by
    rw[jc,zaX (by rw[t2,_aq z2]),ji,xg,z0x (x:=rD g) (y:=.int ((g.idxOf (maxL g):Nat):Int)) (z:=.int m) (vr rfl) s2 (vr rfl),u2,z2];rfl)]
  ·exact absurd (hr.resolve_left z2) z1
theorem og0(all:List D)(s:Sto):okG [] all s:=by intro p hp;simp at hp
theorem zgA {n:Nat} {v g:List Int} (r:Rl) (h:z9Q n 10 v) (s:Sto):vo [.str (nmR r),rD v,rD g] s=.ok (.bl (!ended v&&decide (stp r v=g))) s:=by
 have st:zt ["rule","ahead","lot"] [.str (nmR r),rD v,rD g]=[some (.str (nmR r)),some (rD v),some (rD g)]:=rfl;unfold vo jB z15;rw[_e (by rfl),st,kN,xg,zeA,zgW,ud (x:=rD v) (vr rfl),z0Q.ok (kc h.toLot s),Rb];cases he:ended v with
 | true=>rfl | false=>
  simp only[Rb,_cC,_cX];rw[op2 (x:=rD (stp r v)) (y:=rD g) (by rw[call2 (x:=.str (nmR r)) (y:=rD v) (vr rfl) (vr rfl)];exact le_step.ok (zeh r h he (by decide) s)) (vr rfl),zfu];rfl
section
variable {n m:Nat}{g:List Int}(hm:m<=30)(r:Rl)
include hm
theorem zhW {v:List Int} (hv:Lot n v) {F:List (List Int)} (hF:F.length<=1000) (s:Sto): (zF xE xc) (E5 (some (.str (nmR r))) (some (rD g)) (some (.int m)) (some (.loc s.length)) (some (rD v))) (s++[F.map rD]) = if (F++[v].filter (cms r g m)).length<=1000 then .ok (.nx (E5 (some (.str (nmR r))) (some (rD g)) (some (.int m)) (some (.loc s.length)) (some (rD v)))) (s++[(F++[v].filter (cms r g m)).map rD]) else .ex "TooMany" (s++[(F++[v].filter (cms r g m)).map rD]):=by
 have mx:wl [rD v] (s++[F.map rD])=.ok (.int (maxL v)) (s++[F.map rD]):=z0T (s++[F.map rD]) hv.ne;have cm:maxL v<=(m:Int)->vo [.str (nmR r),rD v,rD g] (s++[F.map rD])=.ok (.bl (!ended v&&decide (stp r v=g))) (s++[F.map rD]):=λq=>zgA r (Lot.small hv (by omega) q) _;have fl:(rD v).flat=true:=by simp[D.flat,uW]
 have t7:∀(G:List D) (d e f:D),xc (E5 (some d) (some e) (some (.int m)) (some (.loc s.length)) (some f)) (s++[G])=if G.length<=1000 then .ok (.nx (E5 (some d) (some e) (some (.int m)) (some (.loc s.length)) (some f))) (s++[G]) else .ex "TooMany" (s++[G]):=λG d e f=>by
  have t:tOf (eOp dGt (zi ub (za (zc 3) zk)) (eC (.int 1000))) (E5 (some d) (some e) (some (.int m)) (some (.loc s.length)) (some f)) (s++[G])=.ok (decide (1000<G.length)) (s++[G]):=vN (by
   rw[op2 (x:=.int (G.length:Int)) (y:=.int 1000) (by rw[ud (x:=.loc s.length) (vr rfl)];simp[ub,zW]) rfl];simp;omega);by_cases q:G.length<=1000
  ·rw[_e q,xc,zd4 (by rw[t,_X (by omega)])];rfl
  ·rw[_j q,xc,zaX (by rw[t,_aq (by omega)])];rfl
 have hl:(F.map rD).length=F.length:=by simp
 have ap:(F++[v]).map rD=F.map rD++[rD v]:=by simp
 by_cases q:cms r g m v=true
 ·have e1:[v].filter (cms r g m)=[v]:=by simp[q]
  rw[e1,ap];have ln:(F++[v]).length=(F.map rD++[rD v]).length:=by simp
  rw[ln];simp only[cms,_z,_an]at q;have cm:=cm q.1;have hc:(!ended v&&decide (stp r v=g))=true:=by simp[q.2.1,q.2.2]
  rw[hc]at cm;generalize F.map rD=X at *;generalize rD v=d at *;generalize rD g=gd at *;rw[zq (Z':=E5 (some (.str (nmR r))) (some gd) (some (.int m)) (some (.loc s.length)) (some d)) (s':=s++[X++[d]]) (by
   rw[xE,zaX (by
    rw[zbW,vN (b:=true) (by rw[op2 (x:=.int (maxL v)) (y:=.int m) (by rw[ud (x:=d) (vr rfl)];exact mx) (vr rfl),zif,_aq q.1]),Rb,_e rfl];exact vN (by rw[z0x (x:=.str (nmR r)) (y:=d) (z:=gd) (vr rfl) (vr rfl) (vr rfl)];exact cm))];refine LeS.calm _ _ _ _ ?_;rw[z2H,xB,zbO,vr (d:=.loc s.length) rfl,Rb];simp only;rw[vr (d:=d) rfl,Rb];have gt:(s++[X])[s.length]? = some X:=by simp
   rw[gt];simp only;rw[_e ⟨fl,by simp[cap];omega⟩,zav];rfl)];exact t7 _ _ _ _
 ·have e1:[v].filter (cms r g m)=[]:=by simp[q]
  rw[e1,_aD];rw[<- hl];simp only[cms,_z,_an]at q;have k:maxL v<=(m:Int)->(!ended v&&decide (stp r v=g))=false:=λz=>by cases hc:(!ended v&&decide (stp r v=g)) with
   | false=>rfl | true=>exact absurd ⟨z,by simpa using hc⟩ q
  generalize (!ended v&&decide (stp r v=g))=bb at *;generalize F.map rD=X at *;generalize rD v=d at *;generalize rD g=gd at *;rw[zq (Z':=E5 (some (.str (nmR r))) (some gd) (some (.int m)) (some (.loc s.length)) (some d)) (s':=s++[X]) (by
   rw[xE,zd4 (by
    rw[zbW,vN (b:=decide (maxL v<=(m:Int))) (by rw[op2 (x:=.int (maxL v)) (y:=.int m) (by rw[ud (x:=d) (vr rfl)];exact mx) (vr rfl),zif]),Rb];by_cases z:maxL v<=(m:Int)
    ·rw[_e (by simpa using z)];exact vN (by rw[z0x (x:=.str (nmR r)) (y:=d) (z:=gd) (vr rfl) (vr rfl) (vr rfl),cm z,k z])
    ·rw[_j (by simpa using z)])];rfl)];exact t7 _ _ _ _
noncomputable abbrev bdy:D->Ev->Sto->R Fl:=λx Z s=>(kb 4 x Z s).bind λZ' s'=>zF xE xc Z' s'
theorem zeG{all:List D}(s:Sto):∀(xs F:List (List Int))(a4:Option D),(∀v∈xs,Lot n v)->F.length<=1000-> (∃b4,(F++xs.filter (cms r g m)).length<=1000/\vk [] all bdy (xs.map rD) (E5 (some (.str (nmR r))) (some (rD g)) (some (.int m)) (some (.loc s.length)) a4) (s++[F.map rD])=.ok (.nx (E5 (some (.str (nmR r))) (some (rD g)) (some (.int m)) (some (.loc s.length)) b4)) (s++[(F++xs.filter (cms r g m)).map rD])) \/ ∃t,1000<(F++xs.filter (cms r g m)).length/\vk [] all bdy (xs.map rD) (E5 (some (.str (nmR r))) (some (rD g)) (some (.int m)) (some (.loc s.length)) a4) (s++[F.map rD])=.ex "TooMany" (s++[t])
 | [],F,a4,_,hF=>.inl ⟨a4,by simpa using hF,by rw[_bY,vk,_e (og0 _ _)];simp⟩ | v::xs,F,a4,hx,hF=>by
  have t:=zhW (g:=g) hm r (hx v (.head _)) hF s;have fe:(v::xs).filter (cms r g m)=[v].filter (cms r g m)++xs.filter (cms r g m):=by rw[<- _bP];rfl
  have b:bdy (rD v) (E5 (some (.str (nmR r))) (some (rD g)) (some (.int m)) (some (.loc s.length)) a4) (s++[F.map rD])=(zF xE xc) (E5 (some (.str (nmR r))) (some (rD g)) (some (.int m)) (some (.loc s.length)) (some (rD v))) (s++[F.map rD]):=rfl;rw[fe,<- _a1,_v,vk,_e (og0 _ _),b,t];by_cases q:(F++[v].filter (cms r g m)).length<=1000
  ·rw[_e q,Rb];exact zeG s xs _ (some (rD v)) (λw hw=>hx w (.tail _ hw)) q
  ·rw[_j q];exact .inr ⟨_,by rw[_M];omega,rfl⟩
end
section
variable {d e f:D}{s:Sto}{c:Str}
theorem zhP (h:zr [d,e] s=.ex c s):ye [d,e,f] s=.ex c s:=by
 have st:zt ["rule","lot","most","found","ahead"] [d,e,f]=E5 (some d) (some e) (some f) none none:=rfl;simp only[ye,jB,qt,st,_g,_i,_G];rw[z2q (c:=c) (s':=s) (by rw[uu];exact kr (by rw[call2 (x:=d) (y:=e) (vr rfl) (vr rfl),h]))]
theorem zbY (h0:zr [d,e] s=.ok .non s) (h:zD [f,.int 1,.int 30] s=.ex c s):ye [d,e,f] s=.ex c s:=by
 have st:zt ["rule","lot","most","found","ahead"] [d,e,f]=E5 (some d) (some e) (some f) none none:=rfl;simp only[ye,jB,qt,st,_g,_i,_G];rw[zq (Z':=E5 (some d) (some e) (some f) none none) (s':=s) (by rw[uu,xB,call2 (x:=d) (y:=e) (vr rfl) (vr rfl),h0];rfl)];rw[z2q (c:=c) (s':=s) (by rw[jd];exact kr (by rw[z0x (x:=f) (y:=.int 1) (z:=.int 30) (vr rfl) rfl rfl,h]))]
theorem zgD (h:yd [d] s=.ex c s):zU [d,e,f] s=.ex c s:=by
 have st:zt ["rule","size","steps","many","found"] [d,e,f]=W5 (some d) (some e) (some f) none none:=rfl;simp only[zU,jB,wD,st,_g,_i,_G];rw[z2q (c:=c) (s':=s) (by rw[xG];exact kr (by rw[ud (x:=d) (vr rfl),h]))]
theorem zfQ (h0:yd [d] s=.ok .non s) (h:zX [e,.int 3] s=.ex c s):zU [d,e,f] s=.ex c s:=by
 have st:zt ["rule","size","steps","many","found"] [d,e,f]=W5 (some d) (some e) (some f) none none:=rfl;simp only[zU,jB,wD,st,_g,_i,_G];rw[zq (Z':=W5 (some d) (some e) (some f) none none) (s':=s) (by rw[xG,xB,ud (x:=d) (vr rfl),h0];rfl)];rw[z2q (c:=c) (s':=s) (by rw[vF];exact kr (by rw[call2 (x:=e) (y:=.int 3) (vr rfl) rfl,h]))]
theorem zbe (h0:yd [d] s=.ok .non s) (h1:zX [e,.int 3] s=.ok .non s) (h:zD [f,.int 0,.int 12] s=.ex c s):zU [d,e,f] s=.ex c s:=by
 have st:zt ["rule","size","steps","many","found"] [d,e,f]=W5 (some d) (some e) (some f) none none:=rfl;simp only[zU,jB,wD,st,_g,_i,_G];rw[zq (Z':=W5 (some d) (some e) (some f) none none) (s':=s) (by rw[xG,xB,ud (x:=d) (vr rfl),h0];rfl)];rw[zq (Z':=W5 (some d) (some e) (some f) none none) (s':=s) (by rw[vF,xB,call2 (x:=e) (y:=.int 3) (vr rfl) rfl,h1];rfl)];rw[z2q (c:=c) (s':=s) (by rw[qQ];exact kr (by rw[z0x (x:=f) (y:=.int 0) (z:=.int 12) (vr rfl) rfl rfl,h]))]
end
theorem zdz:LeM ug zU:=LeM.mof (LeS.seq (LeS.drop (LeE.call wL)) (LeS.seq (LeS.drop (LeE.call z0G)) (LeS.seq (LeS.drop (LeE.call Pt.jR)) (LeS.seq (LeS.set (LeE.call z1G)) (LeS.seq LeS.calm LeS.calm)))))
theorem ziU{n a b:Int}(hn:¬ (a<=n/\n<=b))(s:Sto):zD [.int n,.int a,.int b] s=.ex "NoNumber" s:=by
 have i:=jA n s;by_cases h:a<=n
 ·have hb:¬ n<=b:=λz=>hn ⟨h,z⟩;simp[zD,jB,xW,zt,i,h,hb]
 ·simp[zD,jB,xW,zt,i,h]
theorem zi4{d a b:D}(h1:(tyD d).isSome=true)(h2:isI d=false)(s:Sto):zD [d,a,b] s=.ex "NoNumber" s:=by
 have i:=qC h1 s;rw[h2]at i;simp[zD,jB,xW,zt,i]
theorem zkE{n b:Int}(hn:¬ (2<=n/\n<=b))(s:Sto):zX [.int n,.int b] s=.ex "NoSize" s:=by
 have i:=jA n s;by_cases h:2<=n
 ·have hb:¬ n<=b:=λz=>hn ⟨h,z⟩;simp[zX,jB,vf,zt,i,h,hb]
 ·simp[zX,jB,vf,zt,i,h]
theorem zkk{d b:D}(h1:(tyD d).isSome=true)(h2:isI d=false)(s:Sto):zX [d,b] s=.ex "NoSize" s:=by
 have i:=qC h1 s;rw[h2]at i;simp[zX,jB,vf,zt,i]
theorem zkb {n m:Nat} {g:List Int} (h:Lot n g) (hm1:1<=m) (hm:m<=30) (hp:(m+1) ^ (n-1)<=90000) (hg:∀x∈g,x<=1000) (r:Rl) (hr:r=.al\/r=.tu) (s:Sto): (((ahead r g m).filter (cms r g m)).length<=1000/\∃t u,ye [.str (nmR r),rD g,.int m] s=.ok (.loc (s.length+1)) (s++[t]++[u])) \/ (1000<((ahead r g m).filter (cms r g m)).length/\∃t,ye [.str (nmR r),rD g,.int m] s=.ex "TooMany" (s++[t])):=by
 have w1:=z0h.ok (z1P r h s);have w2:=Pt.jR.ok (z3P (x:=((m:Nat):Int)) (a:=1) (b:=30) (by omega) (by omega) s);have ah:=zdv h hm hp hg r hr (s++[[]]);have al:∀a∈ahead r g m,Lot n a:=λa ha=>by
  have l4:=h.le4;rcases hr with rfl | rfl;·exact z66 h (z3N (maxL_mem h.ne)).1 a ha
  ·exact z66 (z1M h) (by rw[qW];omega) a ha
 have up:Up (ahead r g m):=by
  rcases hr with rfl | rfl;·exact z8o h.nn
  ·exact z8o (z1M h).nn
 have lp:=zeG (g:=g) hm r (all:=(ahead r g m).map rD) s (ahead r g m) [] none al (by simp);simp only[_bl,_bY]at lp;have st:∀gd:D,zt ["rule","lot","most","found","ahead"] [.str (nmR r),gd,.int m]=E5 (some (.str (nmR r))) (some gd) (some (.int m)) none none:=λ_=>rfl;have beg:∀(gd:D) (R':R D),zr [.str (nmR r),gd] s=.ok .non s->(match (zF wM (qK vR)) (E5 (some (.str (nmR r))) (some gd) (some (.int m)) (some (.loc s.length)) none) (s++[[]]) with | .ok (.rt d) s'=>R.ok d s' | .ok (.nx _) s'=>.ok .non s' | .ex c s'=>.ex c s' | _=>.no)=R'->ye [.str (nmR r),gd,.int m] s=R':=λgd R' w1 hR=>by
  simp only[ye,jB,qt,st,_g,_i,_G];rw[zq (Z':=E5 (some (.str (nmR r))) (some gd) (some (.int m)) none none) (s':=s) (by rw[uu,xB,call2 (x:=.str (nmR r)) (y:=gd) (vr rfl) (vr rfl),w1];rfl)];rw[zq (Z':=E5 (some (.str (nmR r))) (some gd) (some (.int m)) none none) (s':=s) (by rw[jd,xB,z0x (x:=.int m) (y:=.int 1) (z:=.int 30) (vr rfl) rfl rfl,w2];rfl)];rw[zq (Z':=E5 (some (.str (nmR r))) (some gd) (some (.int m)) (some (.loc s.length)) none) (s':=s++[[]]) (LeS.calm _ _ _ _ (by
   rw[z2c,ya,zbG,zH];simp only[Rb];rw[_e ⟨by simp[cap],rfl⟩];rfl))];rw[<- hR]<;>(generalize (zF wM (qK vR)) (E5 (some (.str (nmR r))) (some gd) (some (.int m)) (some (.loc s.length)) none) (s++[[]])=Zq;rfl)
 rcases lp with⟨b4,hl,lp⟩ | ⟨t,hl,lp⟩
 ·obtain⟨G,e,_,_,_⟩:=zcT (s:=s++[((ahead r g m).filter (cms r g m)).map rD]) (d:=.loc s.length) (by simp[Dd.listOf]) (up.nodup.filter (cms r g m)) (.inr (up.filter (cms r g m))) (λv hv=>(al v (_bk.mp hv).1).ne);have gs:z1V [.loc s.length] (s++[((ahead r g m).filter (cms r g m)).map rD])=.ok (.loc (s.length+1)) (s++[((ahead r g m).filter (cms r g m)).map rD]++[G.map rD]):=by
   have flG:=z4f G;simp only[z1V,e];rw[_e flG];simp
  refine .inl ⟨hl,((ahead r g m).filter (cms r g m)).map rD,G.map rD,beg _ _ w1 ?_⟩;generalize ((ahead r g m).filter (cms r g m)).map rD=X at *;generalize (ahead r g m).map rD=A at *;generalize G.map rD=Yy at *;generalize rD g=gd at *;rw[zq (by
   rw[wM,z1b,qk (xs:=A) (by rw[z0x (x:=.str (nmR r)) (y:=gd) (z:=.int m) (vr rfl) (vr rfl) (vr rfl)];exact ah),Rb];exact lp),show (qK vR) _ (s++[X])=.ok (.rt (.loc (s.length+1))) (s++[X]++[Yy]) from LeS.calm _ _ _ _ (by rw[vR,xg,ud (x:=.loc s.length) (vr rfl),gs];rfl)]
 ·refine .inr ⟨hl,t,beg _ _ w1 ?_⟩;generalize ((ahead r g m).filter (cms r g m)).map rD=X at *;generalize (ahead r g m).map rD=A at *;generalize rD g=gd at *;rw[z2q (by
   rw[wM,z1b,qk (xs:=A) (by rw[z0x (x:=.str (nmR r)) (y:=gd) (z:=.int m) (vr rfl) (vr rfl) (vr rfl)];exact ah),Rb];exact lp)]
theorem zdG{n m:Nat}{g v:List Int}{r:Rl}(h1:Lot n v)(h:cms r g m v=true):v∈(ahead r g m).filter (cms r g m):=by
 rw[_bk];refine⟨?_,h⟩;simp only[cms,_z,_an]at h;exact zbS h1 (by simpa using h.2.1) (λx hx=>Int.le_trans (maxL_ge x hx) h.1) h.2.2
def fA(k:Nat):List Int:=[((2*((k+1) / 930):Nat):Int),((if (k+1) % 930 / 31=0 then 0 else (k+1) % 930 / 31+1:Nat):Int),1,(((k+1) % 31:Nat):Int)]
def fT(k:Nat):List Int:=[1,(((k+1) / 961:Nat):Int),(((k+1) % 961 / 31:Nat):Int),(((k+1) % 31:Nat):Int)]
theorem zbc{f:Nat->List Int}{r:Rl}{g:List Int}(inj:∀i j,f i=f j->i=j)(lt:∀k,Lot 4 (f k))(c:∀k,k<1001->cms r g 30 (f k)=true):1000<((ahead r g 30).filter (cms r g 30)).length:=by
 have nd:((List.range 1001).map f).Nodup:=by
  unfold List.Nodup;rw[_bt];exact List.nodup_range.imp λ{a b} hab z=>hab (inj a b z)
 have:=len_sub nd (m:=(ahead r g 30).filter (cms r g 30)) λx hx=>by
  obtain⟨k,hk,rfl⟩:=_J.mp hx;exact zdG (lt k) (c k (_aI.mp hk))
 rw[_I,_cR]at this;omega
theorem zkP:1000<((ahead .al [0,0,1,0] 30).filter (cms .al [0,0,1,0] 30)).length:=by
 refine zbc (f:=fA) (λi j h=>?_) (λk=>⟨by unfold Sz;omega,rfl,λx hx=>?_,1,by simp[fA],by omega⟩) (by decide +kernel)
 ·simp only[fA,_aK,and_true]at h;obtain⟨h1,h2,_,h4⟩:=h;split at h2<;>split at h2<;>omega
 ·simp only[fA,_q,_ad,_bx]at hx;rcases hx with rfl | rfl | rfl | rfl<;>omega
theorem zkh:1000<((ahead .tu [0,0,0,1] 30).filter (cms .tu [0,0,0,1] 30)).length:=by
 refine zbc (f:=fT) (λi j h=>?_) (λk=>⟨by unfold Sz;omega,rfl,λx hx=>?_,1,by simp[fT],by omega⟩) (by decide +kernel)
 ·simp only[fT,_aK,and_true]at h;obtain⟨_,h1,h2,h4⟩:=h;omega
 ·simp only[fT,_q,_ad,_bx]at hx;rcases hx with rfl | rfl | rfl | rfl<;>omega
open PySem.Builtin.Str
theorem z26{M:Mir}{a b c d:FE}{Z:Ev}{s:Sto}{w x y z:D}(h1:a Z s=.ok w s)(h2:b Z s=.ok x s)(h3:c Z s=.ok y s)(h4:d Z s=.ok z s):zi M (za a (za b (za c (za d zk)))) Z s=M [w,x,y,z] s:=by simp only[xi,zo,zH,h1,h2,h3,h4,Rb]
section
variable {w x y:D}{s:Sto}{r:Rl}
theorem ze2(h:yC [w] s=.ok (.bl false) s):zf [.int 0,w,x,y] s=.ok (.str "rule") s:=jD (by decide +kernel) (z5p s) (by rw[w0,zhP (z9R h)];rfl)
theorem zhn(h:NoL x):zf [.int 0,.str (nmR r),x,y] s=.ok (.str "lot") s:=jD (by decide +kernel) (zde s) (by
 have hx:zS [x] s=.ok (.bl false) s:=by
  rcases zcA h.1 s with⟨n,v,e,lt,_⟩ | ⟨e,_⟩;·exact absurd lt (h.2 n v e)
  ·exact e
 rw[w0,zhP (zdy hx)];rfl)
theorem zcw{n:Nat}{v:List Int}(hv:Lot n v)(h:zD [y,.int 1,.int 30] s=.ex "NoNumber" s):zf [.int 0,.str (nmR r),rD v,y] s=.ok (.str "number") s:=jD (by decide +kernel) (z2d s) (by rw[w0,zbY (z0h.ok (z1P r hv s)) h];rfl)
theorem zeF(h:yC [w] s=.ok (.bl false) s):zf [.int 1,w,x,y] s=.ok (.str "rule") s:=jD (by decide +kernel) (z5p s) (by rw[w1,zgD (jY h)];rfl)
theorem zem(h:zX [x,.int 3] s=.ex "NoSize" s):zf [.int 1,.str (nmR r),x,y] s=.ok (.str "size") s:=jD (by decide +kernel) (zbE s) (by rw[w1,zfQ (wL.ok (vK r s)) h];rfl)
theorem zdf{n:Nat}(h2:2<=n)(h3:n<=3)(h:zD [y,.int 0,.int 12] s=.ex "NoNumber" s):zf [.int 1,.str (nmR r),.int n,y] s=.ok (.str "number") s:=jD (by decide +kernel) (z2d s) (by rw[w1,zbe (wL.ok (vK r s)) (z0G.ok (Pt.z2p (b:=3) h2 h3 s)) h];rfl)
theorem zej{n:Nat}(hn:Sz n)(h3:n<=3){st:Nat}(hst:st<=12):zf [.int 1,.str (nmR r),.int n,.int st] s=.ok (.str "told") s:=by
 obtain⟨o,S',e,fr⟩:=z5E hn h3 r hst s;exact zaH fr (by rw[w1,zdz.ok e];rfl)
end
theorem zci(s:Sto):zf [.int 0,.str "all",.tup [.int 0,.int 0,.int 1,.int 0],.int 30] s=.ok (.str "many") s:=by
 have h:Lot 4 [0,0,1,0]:=⟨by unfold Sz;omega,rfl,by decide,1,by decide,by decide⟩;rcases zkb h (m:=30) (by decide) (by decide) (by decide) (by decide) .al (.inl rfl) s with⟨a,_⟩ | ⟨_,t,e⟩
 ·have z:¬ ((ahead .al [0,0,1,0] 30).filter (cms .al [0,0,1,0] 30)).length<=1000:=by have:=zkP;omega
  exact absurd a z
 ·have e':ye [.str "all",.tup [.int 0,.int 0,.int 1,.int 0],.int 30] s=.ex "TooMany" (s++[t]):=e;exact z7q (by decide +kernel) (z6b _) (by rw[w0,e'];rfl)
theorem za5(s:Sto):zf [.int 0,.str "turn",.tup [.int 0,.int 0,.int 0,.int 1],.int 30] s=.ok (.str "many") s:=by
 have h:Lot 4 [0,0,0,1]:=⟨by unfold Sz;omega,rfl,by decide,1,by decide,by decide⟩;rcases zkb h (m:=30) (by decide) (by decide) (by decide) (by decide) .tu (.inr rfl) s with⟨a,_⟩ | ⟨_,t,e⟩
 ·have z:¬ ((ahead .tu [0,0,0,1] 30).filter (cms .tu [0,0,0,1] 30)).length<=1000:=by have:=zkh;omega
  exact absurd a z
 ·have e':ye [.str "turn",.tup [.int 0,.int 0,.int 0,.int 1],.int 30] s=.ex "TooMany" (s++[t]):=e;exact z7q (by decide +kernel) (z6b _) (by rw[w0,e'];rfl)
theorem zdo (s:Sto):zf [.int 0,.str "all",.tup [.int 0,.int 0,.int 1],.int 30] s=.ok (.str "told") s:=by
 have h:Lot 3 [0,0,1]:=⟨by unfold Sz;omega,rfl,by decide,1,by decide,by decide⟩;rcases zkb h (m:=30) (by decide) (by decide) (by decide) (by decide) .al (.inl rfl) s with⟨_,t,u,e⟩ | ⟨a,_⟩
 ·have e':ye [.str "all",.tup [.int 0,.int 0,.int 1],.int 30] s=.ok (.loc (s.length+1)) (s++[t]++[u]):=e;refine zaH (s':=s++[t]++[u]) ?_ (by rw[w0,e'];rfl);rw[_a1];exact List.take_left' rfl
 ·have l1:=List.length_filter_le (cms .al [0,0,1] 30) (ahead .al [0,0,1] 30);have l2:(ahead .al [0,0,1] 30).length<=961:=by
   have:=zbL (w:=[0,0,1]) (b:=2) (m:=30) (k:=3) (by decide) (by decide);exact this
  have z:¬ 1000<((ahead .al [0,0,1] 30).filter (cms .al [0,0,1] 30)).length:=by omega
  exact absurd a z
def zaO(r:Rl):List D:=[.str (Txt.upper (nmR r)),.str (Txt.slice (nmR r) (some 1) none),.str (nmR r++"s"),.str "",.non,.int 3,.tup [.str (nmR r)],.lst [.str (nmR r)],.bl true,.dct]
theorem z8c{r:Rl}{d:D}(h:d∈zaO r)(s:Sto):yC [d] s=.ok (.bl false) s:=zhN (r:=r) (by
 simp only[zaO,noR,_q,_ad,_bx]at h ⊢;rcases h with h | h | h | h | h | h | h | h | h | h<;>simp[h]) s
noncomputable def zjl:List D:=[.int 0,.int 31,.int (-1),.bl true,.non,.str "1",.tup [.int 1],.int T39]
noncomputable def zjy:List D:=[.int 1,.int 4,.int 0,.bl true,.non,.str "2",.tup [.int 2],.int T39]
noncomputable def zjm:List D:=[.int 13,.int (-1),.bl true,.non,.str "1",.lst [.int 1],.int T39]
theorem zhv{d:D}(h:d∈zjl)(s:Sto):zD [d,.int 1,.int 30] s=.ex "NoNumber" s:=by
 simp only[zjl,_q,_ad,_bx]at h;rcases h with rfl | rfl | rfl | rfl | rfl | rfl | rfl | rfl<;>first | exact ziU (by decide) s | exact zi4 rfl rfl s
theorem zhr{d:D}(h:d∈zjy)(s:Sto):zX [d,.int 3] s=.ex "NoSize" s:=by
 simp only[zjy,_q,_ad,_bx]at h;rcases h with rfl | rfl | rfl | rfl | rfl | rfl | rfl | rfl<;>first | exact zkE (by decide) s | exact zkk rfl rfl s
theorem zhY{d:D}(h:d∈zjm)(s:Sto):zD [d,.int 0,.int 12] s=.ex "NoNumber" s:=by
 simp only[zjm,_q,_ad,_bx]at h;rcases h with rfl | rfl | rfl | rfl | rfl | rfl | rfl<;>first | exact ziU (by decide) s | exact zi4 rfl rfl s
theorem zjx {xs:List D} {k:Nat} (hl:xs.length=k) (hk:1<=k) (hk2:k<=100) {f:FE} {Z:Ev} {s:Sto} {l:Nat} (hp:Pot s l) (hf:∀s,f Z s=.ok (.lst xs) s) (h2:Z[2]? = some (some (.loc l))): ∃d s',eOp dIx f (zi Pg.zm (za (zc 2) (za (eC (.int k)) zk))) Z s=.ok d s'/\d∈xs/\uh s s' l:=by
 obtain⟨x,s',e,a,b,dr⟩:=jg (f:=zc 2) (g:=eC (.int k)) (far:=(k:Int)) (Z:=Z) hp (by omega) (z3q (by omega)) (vr h2) (by simp);have hx:x.toNat<xs.length:=by omega
 refine⟨xs[x.toNat],s',?_,_bb hx,dr⟩;rw[wB,hf,Rb,e,Rb];exact z5O a (_f hx)
abbrev Sh(a0 a1 a2 a3 a4 a5 a6 a7 a8 a9 a10:Option D):Ev:=[a0,a1,a2,a3,a4,a5,a6,a7,a8,a9,a10]
theorem zge(r:Rl)(a0 a1 a2 a4 a5 a6 a7 a8 a9 a10:Option D)(s:Sto):ue (za (zby (zc 3)) (za (zl1 (zc 3) (uT (eC (.int 1)))) (za (eOp zdH (zc 3) (eC (.str "s"))) (za (eC (.str "")) (za (eC .non) (za (eC (.int 3)) (za (qM (za (zc 3) zk)) (za (ue (za (zc 3) zk)) (za (eC (.bl true)) (za (eC .dct) zk)))))))))) (Sh a0 a1 a2 (some (.str (nmR r))) a4 a5 a6 a7 a8 a9 a10) s=.ok (.lst (zaO r)) s:=by cases r<;>kernel_rfl
theorem zgr(Z:Ev)(s:Sto):eOp z30 (eC (.int 10)) (eC (.int 39)) Z s=.ok (.int T39) s:=by kernel_rfl
theorem zkn(Z:Ev)(s:Sto):ue (za (eC (.int 0)) (za (eC (.int 31)) (za (z3Z (eC (.int 1))) (za (eC (.bl true)) (za (eC .non) (za (eC (.str "1")) (za (qM (za (eC (.int 1)) zk)) (za (eOp z30 (eC (.int 10)) (eC (.int 39))) zk)))))))) Z s=.ok (.lst zjl) s:=by kernel_rfl
theorem zkt(Z:Ev)(s:Sto):ue (za (eC (.int 1)) (za (eC (.int 4)) (za (eC (.int 0)) (za (eC (.bl true)) (za (eC .non) (za (eC (.str "2")) (za (qM (za (eC (.int 2)) zk)) (za (eOp z30 (eC (.int 10)) (eC (.int 39))) zk)))))))) Z s=.ok (.lst zjy) s:=by kernel_rfl
theorem zkw(Z:Ev)(s:Sto):ue (za (eC (.int 13)) (za (z3Z (eC (.int 1))) (za (eC (.bl true)) (za (eC .non) (za (eC (.str "1")) (za (ue (za (eC (.int 1)) zk)) (za (eOp z30 (eC (.int 10)) (eC (.int 39))) zk))))))) Z s=.ok (.lst zjm) s:=by kernel_rfl
theorem zgl {s:Sto} {l:Nat} {f:FE} {Z:Ev} (h:Pot s l) (hf:f Z s=.ok (.loc l) s):∃r s',eOp dIx (zi Pg.yE zk) (zi Pg.zm (za f (za (eC (.int 4)) zk))) Z s=.ok (.str (nmR r)) s'/\uh s s' l:=by
 obtain⟨x,s',e,a,b,dr⟩:=jg (f:=f) (g:=eC (.int 4)) (far:=4) (Z:=Z) h (by decide) (z3q (by decide)) hf (by simp);have hr:x.toNat<zgT.length:=by simp[zgT];omega
 refine⟨zgT[x.toNat],s',?_,dr⟩;have ix:=z5O (xs:=zgT.map λr=>D.str (nmR r)) (d:=.str (nmR zgT[x.toNat])) (s:=s') a (by simp[hr]);rw[wB,xi,zH,Rb,zcP,Rb,e,Rb,ix]
noncomputable abbrev zfY:D->Ev->Sto->R Fl:=λd Z s=>(kb 1 d Z s).bind λZ' s'=>(zF z1I (zF z2Y (zF z2w (zF z1S (zF z2a (zF z2l (zF z2e (zF z2b (zF kP (zF jw (zF jF (zF jy (zF jz jG))))))))))))) Z' s'
abbrev l1:List D:=[.str "rule",.str "lot",.str "number"]
abbrev l2:List D:=[.str "rule",.str "lot",.str "number",.str "rule",.str "lot"]
abbrev l3:List D:=[.str "rule",.str "size",.str "number"]
noncomputable abbrev l4:List D:=[.str "rule",.str "size",.str "number",.str "rule",.str "size",.str "told"]
theorem zfm {sc:Option D} {a1 a5 a6 a7 a8 a9 a10:Option D} {l:Nat} {r:Rl} {bad:D} {s:Sto} (hb:bad∈zaO r) (hp:Pot s l): ∃b8 b9 b10 s',(zF jw (zF jF (zF jy (zF jz jG)))) (Sh sc a1 (some (.loc l)) (some (.str (nmR r))) (some bad) a5 a6 a7 a8 a9 a10) s=.ok (.nx (Sh sc a1 (some (.loc l)) (some (.str (nmR r))) (some bad) a5 a6 a7 b8 b9 b10)) s':=by
 obtain⟨z,s1,e1,mz,d1⟩:=zjx (xs:=zjy) (k:=8) rfl (by decide) (by decide) (Z:=Sh sc a1 (some (.loc l)) (some (.str (nmR r))) (some bad) a5 a6 a7 a8 a9 a10) hp (zkt _) rfl;have g12:jw (Sh sc a1 (some (.loc l)) (some (.str (nmR r))) (some bad) a5 a6 a7 a8 a9 a10) s=.ok (.nx (Sh sc a1 (some (.loc l)) (some (.str (nmR r))) (some bad) a5 a6 a7 a8 (some z) a10)) s1:=by
  have e1':eOp dIx _ (zi Pg.zm (za (zc 2) (za (eC (.int 8)) zk))) _ s=_:=e1;rw[jw,ya,e1'];rfl
 obtain⟨t,s2,e2,mt,d2⟩:=zjx (xs:=zjm) (k:=7) rfl (by decide) (by decide) (Z:=Sh sc a1 (some (.loc l)) (some (.str (nmR r))) (some bad) a5 a6 a7 a8 (some z) a10) d1.pot (zkw _) rfl;have g13:jF (Sh sc a1 (some (.loc l)) (some (.str (nmR r))) (some bad) a5 a6 a7 a8 (some z) a10) s1=.ok (.nx (Sh sc a1 (some (.loc l)) (some (.str (nmR r))) (some bad) a5 a6 a7 a8 (some z) (some t))) s2:=by
  have e2':eOp dIx _ (zi Pg.zm (za (zc 2) (za (eC (.int 7)) zk))) _ s1=_:=e2;rw[jF,ya,e2'];rfl
 have ir:=z8c hb s2;have zx:=zhr mz s2;have tx:=zhY mt s2;have k1:zf [.int 1,bad,z,t] s2=.ok (.str "rule") s2:=zeF ir;have k2:zf [.int 1,.str (nmR r),z,t] s2=.ok (.str "size") s2:=zem zx;have k3:zf [.int 1,.str (nmR r),.int 2,t] s2=.ok (.str "number") s2:=zdf (n:=2) (by decide) (by decide) tx;have k4:zf [.int 1,bad,.int 2,.int 1] s2=.ok (.str "rule") s2:=zeF ir;have k5:zf [.int 1,.str (nmR r),z,.int 1] s2=.ok (.str "size") s2:=zem zx;have k6:zf [.int 1,.str (nmR r),.int 2,.int 1] s2=.ok (.str "told") s2:=zej (n:=2) (st:=1) (by unfold Sz;omega) (by decide) (by decide);have c3:(3:Nat)<=cap:=by decide
 have c6:(6:Nat)<=cap:=by decide
 have g14:jy (Sh sc a1 (some (.loc l)) (some (.str (nmR r))) (some bad) a5 a6 a7 a8 (some z) (some t)) s2=.ok (.nx (Sh sc a1 (some (.loc l)) (some (.str (nmR r))) (some bad) a5 a6 a7 (some (.lst l3)) (some z) (some t))) s2:=by
  rw[jy,ya,wo,zo,z26 (w:=.int 1) (x:=bad) (y:=z) (z:=t) rfl (vr rfl) (vr rfl) (vr rfl),k1,Rb,zo,z26 (w:=.int 1) (x:=.str (nmR r)) (y:=z) (z:=t) rfl (vr rfl) (vr rfl) (vr rfl),k2,Rb,zo,z26 (w:=.int 1) (x:=.str (nmR r)) (y:=.int 2) (z:=t) rfl (vr rfl) rfl (vr rfl),k3,Rb,zH];simp only[Rb,_g,_i,_E,Nat.reduceAdd,_e c3];rfl
 have g15:jz (Sh sc a1 (some (.loc l)) (some (.str (nmR r))) (some bad) a5 a6 a7 (some (.lst l3)) (some z) (some t)) s2=.ok (.nx (Sh sc a1 (some (.loc l)) (some (.str (nmR r))) (some bad) a5 a6 a7 (some (.lst l4)) (some z) (some t))) s2:=by
  rw[jz,ya,wB,vr (d:=.lst l3) rfl,Rb,wo,zo,z26 (w:=.int 1) (x:=bad) (y:=.int 2) (z:=.int 1) rfl (vr rfl) rfl rfl,k4,Rb,zo,z26 (w:=.int 1) (x:=.str (nmR r)) (y:=z) (z:=.int 1) rfl (vr rfl) (vr rfl) rfl,k5,Rb,zo,z26 (w:=.int 1) (x:=.str (nmR r)) (y:=.int 2) (z:=.int 1) rfl (vr rfl) rfl rfl,k6,Rb,zH];simp only[Rb,_g,_i,_E,Nat.reduceAdd,_e c3,z5Z,_e c6];rfl
 have g16:jG (Sh sc a1 (some (.loc l)) (some (.str (nmR r))) (some bad) a5 a6 a7 (some (.lst l4)) (some z) (some t)) s2=.ok (.nx (Sh sc a1 (some (.loc l)) (some (.str (nmR r))) (some bad) a5 a6 a7 (some (.lst l4)) (some z) (some t))) s2:=by
  have ne:dNe (.lst l4) (.lst l4) s2=.ok (.bl false) s2:=by kernel_rfl
  rw[jG,zd4 (vN (by rw[op2 (x:=.lst l4) (y:=.lst l4) (vr rfl) (by simp[cap]),ne]))];rfl
 exact⟨_,_,_,_,by rw[zq g12,zq g13,zq g14,zq g15,g16]⟩
def ShL(ns:List Int)(Z:Ev):Prop:=∃a1 a2 a3 a4 a5 a6 a7 a8 a9 a10,Z=Sh (some (.scr (iL ns))) a1 a2 a3 a4 a5 a6 a7 a8 a9 a10
abbrev S3(ns:List Int)(j:Nat)(s:Sto)(a3 a4 a5 a6 a7 a8 a9 a10:Option D):Ev:=Sh (some (.scr (iL ns))) (some (.int j)) (some (.loc s.length)) a3 a4 a5 a6 a7 a8 a9 a10
theorem zgy (ns:List Int) (j:Nat) (Z:Ev) (s:Sto) (h:ShL ns Z):∃Z' s',zfY (.int j) Z s=.ok (.nx Z') s'/\ShL ns Z':=by
 obtain⟨a1,a2,a3,a4,a5,a6,a7,a8,a9,a10,rfl⟩:=h;rw[show zfY (.int j) (Sh (some (.scr (iL ns))) a1 a2 a3 a4 a5 a6 a7 a8 a9 a10) s=(zF z1I (zF z2Y (zF z2w (zF z1S (zF z2a (zF z2l (zF z2e (zF z2b (zF kP (zF jw (zF jF (zF jy (zF jz jG))))))))))))) (Sh (some (.scr (iL ns))) (some (.int j)) a2 a3 a4 a5 a6 a7 a8 a9 a10) s from rfl];obtain⟨c,e1⟩:=zhC ns j s;obtain⟨q,e2⟩:=zkz c s;have hp:Pot (s++[[.int q]]) s.length:=⟨q,by simp⟩;have f2:z1I (Sh (some (.scr (iL ns))) (some (.int j)) a2 a3 a4 a5 a6 a7 a8 a9 a10) s=.ok (.nx (S3 ns j s a3 a4 a5 a6 a7 a8 a9 a10)) (s++[[.int q]]):=by rw[z1I,ya,ud (x:=.int c) (by rw[call2 (x:=.scr (iL ns)) (y:=.int j) (vr rfl) (vr rfl),e1]),e2];rfl
 obtain⟨r,s2,e3,d2⟩:=zgl (f:=zc 2) (Z:=S3 ns j s a3 a4 a5 a6 a7 a8 a9 a10) hp (vr rfl);have f3:z2Y (S3 ns j s a3 a4 a5 a6 a7 a8 a9 a10) (s++[[.int q]])=.ok (.nx (S3 ns j s (some (.str (nmR r))) a4 a5 a6 a7 a8 a9 a10)) s2:=by rw[z2Y,ya,e3];rfl
 obtain⟨bad,s3,e4,hb,d3⟩:=zjx (xs:=zaO r) (k:=10) rfl (by decide) (by decide) (Z:=S3 ns j s (some (.str (nmR r))) a4 a5 a6 a7 a8 a9 a10) d2.pot (λs=>zge r _ _ _ _ _ _ _ _ _ _ s) rfl;have f4:z2w (S3 ns j s (some (.str (nmR r))) a4 a5 a6 a7 a8 a9 a10) s2=.ok (.nx (S3 ns j s (some (.str (nmR r))) (some bad) a5 a6 a7 a8 a9 a10)) s3:=by
  have e4':eOp dIx _ (zi Pg.zm (za (zc 2) (za (eC (.int 10)) zk))) _ s2=_:=e4;rw[z2w,ya,e4'];rfl
 obtain⟨x,s4,e5,x0,x3,d4⟩:=jg (f:=zc 2) (g:=eC (.int 3)) (far:=3) (Z:=S3 ns j s (some (.str (nmR r))) (some bad) a5 a6 a7 a8 a9 a10) d3.pot (by decide) (z3q (by decide)) (vr rfl) rfl;have hn:Sz (x.toNat+2):=by unfold Sz;omega
 have en:(2:Int)+x=((x.toNat+2:Nat):Int):=by omega
 generalize x.toNat+2=n at *;obtain⟨v,s5,e6,hv,d5⟩:=zie d4.pot hn;have f5:z1S (S3 ns j s (some (.str (nmR r))) (some bad) a5 a6 a7 a8 a9 a10) s3=.ok (.nx (S3 ns j s (some (.str (nmR r))) (some bad) (some (rD v)) a6 a7 a8 a9 a10)) s5:=by
  rw[z1S,ya,xi,zo,vr (d:=.loc s.length) rfl,Rb,zo,wB,z25,Rb,e5,Rb,z5M,en,Rb,zo,zgr,Rb,zH];simp only[Rb];rw[e6];rfl
 obtain⟨no,s6,e7,hno,d6⟩:=zdP d5.pot hv;have f6:z2a (S3 ns j s (some (.str (nmR r))) (some bad) (some (rD v)) a6 a7 a8 a9 a10) s5=.ok (.nx (S3 ns j s (some (.str (nmR r))) (some bad) (some (rD v)) (some no) a7 a8 a9 a10)) s6:=by rw[z2a,ya,call2 (x:=.loc s.length) (y:=rD v) (vr rfl) (vr rfl),e7];rfl
 obtain⟨fr,s7,e8,hf,d7⟩:=zjx (xs:=zjl) (k:=8) rfl (by decide) (by decide) (Z:=S3 ns j s (some (.str (nmR r))) (some bad) (some (rD v)) (some no) a7 a8 a9 a10) d6.pot (zkn _) rfl;have f7:z2l (S3 ns j s (some (.str (nmR r))) (some bad) (some (rD v)) (some no) a7 a8 a9 a10) s6=.ok (.nx (S3 ns j s (some (.str (nmR r))) (some bad) (some (rD v)) (some no) (some fr) a8 a9 a10)) s7:=by
  have e8':eOp dIx _ (zi Pg.zm (za (zc 2) (za (eC (.int 8)) zk))) _ s6=_:=e8;rw[z2l,ya,e8'];rfl
 have ir:=z8c hb s7;have fx:=zhv hf s7;have k1:zf [.int 0,bad,no,fr] s7=.ok (.str "rule") s7:=ze2 ir;have k2:zf [.int 0,.str (nmR r),no,fr] s7=.ok (.str "lot") s7:=zhn hno;have k3:zf [.int 0,.str (nmR r),rD v,fr] s7=.ok (.str "number") s7:=zcw hv.toLot fx;have k4:zf [.int 0,bad,rD v,.int 5] s7=.ok (.str "rule") s7:=ze2 ir;have k5:zf [.int 0,.str (nmR r),no,.int 5] s7=.ok (.str "lot") s7:=zhn hno;have c2:(2:Nat)<=cap:=by decide
 have c3:(3:Nat)<=cap:=by decide
 have c5:(5:Nat)<=cap:=by decide
 obtain⟨b8,b9,b10,s8,gz⟩:=zfm (sc:=some (.scr (iL ns))) (a1:=some (.int j)) (a5:=some (rD v)) (a6:=some no) (a7:=some fr) (a8:=some (.lst l2)) (a9:=a9) (a10:=a10) hb d7.pot;generalize rD v=vd at *;have g8:z2e (S3 ns j s (some (.str (nmR r))) (some bad) (some vd) (some no) (some fr) a8 a9 a10) s7=.ok (.nx (S3 ns j s (some (.str (nmR r))) (some bad) (some vd) (some no) (some fr) (some (.lst l1)) a9 a10)) s7:=by
  rw[z2e,ya,wo,zo,z26 (w:=.int 0) (x:=bad) (y:=no) (z:=fr) rfl (vr rfl) (vr rfl) (vr rfl),k1,Rb,zo,z26 (w:=.int 0) (x:=.str (nmR r)) (y:=no) (z:=fr) rfl (vr rfl) (vr rfl) (vr rfl),k2,Rb,zo,z26 (w:=.int 0) (x:=.str (nmR r)) (y:=vd) (z:=fr) rfl (vr rfl) (vr rfl) (vr rfl),k3,Rb,zH];simp only[Rb,_g,_i,_E,Nat.reduceAdd,_e c3];rfl
 have g9:z2b (S3 ns j s (some (.str (nmR r))) (some bad) (some vd) (some no) (some fr) (some (.lst l1)) a9 a10) s7=.ok (.nx (S3 ns j s (some (.str (nmR r))) (some bad) (some vd) (some no) (some fr) (some (.lst l2)) a9 a10)) s7:=by
  rw[z2b,ya,wB,vr (d:=.lst l1) rfl,Rb,wo,zo,z26 (w:=.int 0) (x:=bad) (y:=vd) (z:=.int 5) rfl (vr rfl) (vr rfl) rfl,k4,Rb,zo,z26 (w:=.int 0) (x:=.str (nmR r)) (y:=no) (z:=.int 5) rfl (vr rfl) (vr rfl) rfl,k5,Rb,zH];simp only[Rb,_g,_i,_E,Nat.reduceAdd,_e c2,z5Z,_e c5];rfl
 have g10:kP (S3 ns j s (some (.str (nmR r))) (some bad) (some vd) (some no) (some fr) (some (.lst l2)) a9 a10) s7=.ok (.nx (S3 ns j s (some (.str (nmR r))) (some bad) (some vd) (some no) (some fr) (some (.lst l2)) a9 a10)) s7:=by
  have ne:dNe (.lst l2) (.lst l2) s7=.ok (.bl false) s7:=by kernel_rfl
  rw[kP,zd4 (vN (by rw[op2 (x:=.lst l2) (y:=.lst l2) (vr rfl) (by simp[cap]),ne]))];rfl
 exact⟨_,s8,by rw[zq f2,zq f3,zq f4,zq f5,zq f6,zq f7,zq g8,zq g9,zq g10,gz],_,_,_,_,_,_,_,_,_,_,rfl⟩
theorem zj9 (ns:List Int):∃Z' s',z75 (Sh (some (.scr (iL ns))) none none none none none none none none none none) []=.ok (.nx Z') s':=by
 obtain⟨k,ek,hk⟩:=zgZ ns.length 8;rw[show ((8:Nat):Int)=8 from rfl]at ek;obtain⟨Z',s',e,_⟩:=z8g (all:=vb k) (body:=zfY) (λZ _=>ShL ns Z) (vb k) (λx hx Z s hI=>by
  obtain⟨j,_,rfl⟩:=z9t hx;exact zgy ns j Z s hI) (Sh (some (.scr (iL ns))) none none none none none none none none none none) [] ⟨_,_,_,_,_,_,_,_,_,_,rfl⟩;refine⟨Z',s',?_⟩;unfold z75;rw[z1b,z6P (n:=k) (s1:=[]) (by omega) (by simp only[xi,zo,zH,z25,xV,_u,Rb,ub,zW,_I,z7D,zdh,ek]),Rb];exact e
theorem zkO (Z:Ev) (s:Sto):(zF z1s z4Y) Z s=.ok (.rt (.bl true)) s:=by
 have c4:(4:Nat)<=cap:=by decide
 have c3:(3:Nat)<=cap:=by decide
 have k1:=zci s;have k2:=za5 s;have k3:=zdo s;have k4:zf [.int 1,.str "turn",.int 3,.int 12] s=.ok (.str "told") s:=zej (r:=.tu) (n:=3) (st:=12) (by unfold Sz;omega) (by decide) (by decide);have n1:dNe (.str "many") (.str "many") s=.ok (.bl false) s:=by kernel_rfl
 have n2:dEq (.str "told") (.str "told") s=.ok (.bl true) s:=by kernel_rfl
 have f18:z1s Z s=.ok (.nx Z) s:=by
  rw[z1s,zd4 (zgt (vN ?_) (vN ?_))];·rfl
  ·simp only[wB,xi,zo,zH,uH,z25,Rb,_g,_i,_E,Nat.reduceAdd,_e c4,k1,n1]
  ·simp only[wB,xi,zo,zH,uH,z25,Rb,_g,_i,_E,Nat.reduceAdd,_e c4,k2,n1]
 rw[zq f18,z4Y,xg];simp only[zeA,wB,xi,zo,zH,uH,z25,Rb,_g,_i,_E,Nat.reduceAdd,_e c3,k3,k4,n2]
theorem zdp:∀ns:List Int,ns.length<=63->∃s',zg3 [.scr (ns.map D.int)] []=.ok (.bl true) s':=λns hn=>by
 obtain⟨Z',s',e⟩:=zj9 ns;refine⟨s',?_⟩;have st:zt ["_law_script","_law_at","_law_pot_here","_law_rule","_law_bad","_law_lot_here","_law_none","_law_far","_law_told_here","_law_size","_law_steps"] [.scr (ns.map D.int)]=Sh (some (.scr (iL ns))) none none none none none none none none none none:=rfl;unfold zg3 Mof zdX;rw[_e (by rfl),st,zq e,zkO]
end K73
namespace K73
open L2 Dd Pg
theorem zeI:∀x∈rsX,x∈askQ.xs:=by decide +kernel
theorem zlU:∀x∈csX,x∈askQ.xs:=by decide +kernel
theorem zlW:∀x∈rsX,∀y∈csX,((x,y),x==y)∈askQ.ps:=by decide +kernel
theorem zlS:("DrawError":Str)∈askQ.xs:=by decide +kernel
theorem zm1:∀x∈rsX,((x,("DrawError":Str)),true)∈askQ.ps:=by decide +kernel
theorem all_mk {P:Program} {w:World} {K:W.Frag} {h:Heap} {mg:Str->Option Value} {fa:Addr} (X:K.In h) (G:h.Ns mainGlobals mg) (hfa:mg "law"=some (.ref fa)) (e:z9P askQ K=valS askQ w) : ∃fd:FuncData,(∀(s:Shared) (v:Value),BindsTo s fd ⟨[v],[]⟩ [("_law_script",v)])/\∀base:Heap,K.In base->base.Ns mainGlobals mg->z4y P w K mg base CX0 11 fa fd ["_law_script"] (zfW K):=by
 obtain⟨f0,d0,a0,F0⟩:=zR X G e 0 rfl;obtain⟨f1,d1,a1,F1⟩:=zR X G e 1 rfl;obtain⟨f2,d2,a2,F2⟩:=zR X G e 2 rfl;obtain⟨f3,d3,a3,F3⟩:=zR X G e 3 rfl;obtain⟨f4,d4,a4,F4⟩:=zR X G e 4 rfl;obtain⟨f5,d5,a5,F5⟩:=zR X G e 5 rfl;obtain⟨f6,d6,a6,F6⟩:=zR X G e 6 rfl;obtain⟨f7,d7,a7,F7⟩:=zR X G e 7 rfl;obtain⟨f8,d8,a8,F8⟩:=zR X G e 8 rfl;obtain⟨f9,d9,a9,F9⟩:=zR X G e 9 rfl;obtain⟨f10,d10,a10,F10⟩:=zR X G e 10 rfl;obtain⟨f11,d11,a11,F11⟩:=zR X G e 11 rfl;obtain⟨f12,d12,a12,F12⟩:=zR X G e 12 rfl;obtain⟨f13,d13,a13,F13⟩:=zR X G e 13 rfl;obtain⟨f14,d14,a14,F14⟩:=zR X G e 14 rfl;obtain⟨f15,d15,a15,F15⟩:=zR X G e 15 rfl;obtain⟨f16,d16,a16,F16⟩:=zR X G e 16 rfl;obtain⟨f17,d17,a17,F17⟩:=zR X G e 17 rfl;obtain⟨f18,d18,a18,F18⟩:=zR X G e 18 rfl;obtain⟨f19,d19,a19,F19⟩:=zR X G e 19 rfl;obtain⟨f20,d20,a20,F20⟩:=zR X G e 20 rfl;obtain⟨f21,d21,a21,F21⟩:=zR X G e 21 rfl;obtain⟨f22,d22,a22,F22⟩:=zR X G e 22 rfl;obtain⟨f23,d23,a23,F23⟩:=zR X G e 23 rfl;obtain⟨f24,d24,a24,F24⟩:=zR X G e 24 rfl;obtain⟨f25,d25,a25,F25⟩:=zR X G e 25 rfl;obtain⟨f26,d26,a26,F26⟩:=zR X G e 26 rfl;obtain⟨f27,d27,a27,F27⟩:=zR X G e 27 rfl;obtain⟨f28,d28,a28,F28⟩:=zR X G e 28 rfl;obtain⟨f29,d29,a29,F29⟩:=zR X G e 29 rfl;obtain⟨f30,d30,a30,F30⟩:=zR X G e 30 rfl;obtain⟨f31,d31,a31,F31⟩:=zR X G e 31 rfl;obtain⟨f32,d32,a32,F32⟩:=zR X G e 32 rfl;obtain⟨f33,d33,a33,F33⟩:=zR X G e 33 rfl;obtain⟨f34,d34,a34,F34⟩:=zR X G e 34 rfl;obtain⟨f35,d35,a35,F35⟩:=zR X G e 35 rfl;obtain⟨f36,d36,a36,F36⟩:=zR X G e 36 rfl;obtain⟨f37,d37,a37,F37⟩:=zR X G e 37 rfl;obtain⟨f38,d38,a38,F38⟩:=zR X G e 38 rfl;obtain⟨f39,d39,a39,F39⟩:=zR X G e 39 rfl;have e0:=hfa.symm.trans a39;cases e0;obtain⟨oc,od,kV,doc,pm,an,cdv,ct,osl,rfl,hl,hc⟩:=F39.ex;have T:Txt mg:=⟨z20 X G e 0 rfl,z20 X G e 1 rfl,z20 X G e 2 rfl,z20 X G e 3 rfl,z20 X G e 4 rfl,z20 X G e 5 rfl,z20 X G e 6 rfl,vI X G e 0 rfl,vI X G e 1 rfl,vI X G e 2 rfl,vI X G e 3 rfl,vI X G e 4 rfl,vI X G e 5 rfl,vI X G e 6 rfl,vI X G e 7 rfl,vI X G e 8 rfl,vI X G e 9 rfl,vI X G e 10 rfl,vI X G e 11 rfl,vI X G e 12 rfl,vI X G e 13 rfl,vI X G e 14 rfl⟩;have T_RULES:zfy P w K mg "RULES" qw:=zjQ X G e "RULES" z8w (_C (i:=0) rfl);have GG:∀(x:Str) (v:Value),W.nsIn K mainGlobals x=some (some v)->mg x=some v:=λx v h=>W.mg_of X G h;have E_Ended:z7J K mg "Ended":=z0i GG (z37 e "Ended" (zeI _ (by decide +kernel)));have E_NoLot:z7J K mg "NoLot":=z0i GG (z37 e "NoLot" (zeI _ (by decide +kernel)));have E_NoNumber:z7J K mg "NoNumber":=z0i GG (z37 e "NoNumber" (zeI _ (by decide +kernel)));have E_NoRule:z7J K mg "NoRule":=z0i GG (z37 e "NoRule" (zeI _ (by decide +kernel)));have E_NoSize:z7J K mg "NoSize":=z0i GG (z37 e "NoSize" (zeI _ (by decide +kernel)));have E_TooMany:z7J K mg "TooMany":=z0i GG (z37 e "TooMany" (zeI _ (by decide +kernel)));have FM:z5J ⟨mg,K⟩ rsX csX:=zaq GG (λx hx=>z37 e x (zeI x hx)) (λx hx=>z37 e x (zlU x hx)) (λx hx y hy=>by rw[zjb e x y (x==y) (zlW x hx y hy)];rfl);have KS:∀c∈rsX,zjq K mg c "DrawError":=λx hx=>zgs GG (z37 e x (zeI x hx)) (z37 e "DrawError" zlS) (by rw[zjb e x "DrawError" true (zm1 x hx)];rfl);refine⟨W.fnOf "law" "law" (z0r z3z) (wW z3z) (zh z3z) .none kV doc pm an cdv ct,λs v=>.of_eq rfl,λbase _ _=>?_⟩;have H0:=z6s (P:=P) (w:=w) (base:=base) T F0 a0;have H1:=z6j (P:=P) (w:=w) (base:=base) T F1 a1;have H2:=kT (P:=P) (w:=w) (base:=base) T F2 a2;have H3:=qq (P:=P) (w:=w) (base:=base) T F3 a3;have H4:=z2R (P:=P) (w:=w) (base:=base) T F4 a4;have H5:=z7I (P:=P) (w:=w) (base:=base) T F5 a5;have H6:=z7h (P:=P) (w:=w) (base:=base) T F6 a6 T_RULES;have H7:=zaV (P:=P) (w:=w) (base:=base) T F7 a7;have H8:=z2I (P:=P) (w:=w) (base:=base) T F8 a8;have H9:=kA (P:=P) (w:=w) (base:=base) T F9 a9;have H10:=z1o (P:=P) (w:=w) (base:=base) T F10 a10;have H11:=z6w (P:=P) (w:=w) (base:=base) T F11 a11;have H12:=z47 (P:=P) (w:=w) (base:=base) T F12 a12;have H13:=z1g (P:=P) (w:=w) (base:=base) T F13 a13 FM;have H14:=z33 (P:=P) (w:=w) (base:=base) T F14 a14;have H15:=z3f (P:=P) (w:=w) (base:=base) T F15 a15 H0;have HX16:=z1n (P:=P) (w:=w) (base:=base) T F16 a16 E_NoNumber H0;have HX17:=z3g (P:=P) (w:=w) (base:=base) T F17 a17 E_NoSize H0;have H18:=z6Y (P:=P) (w:=w) (base:=base) T F18 a18 H3;have H19:=z5w (P:=P) (w:=w) (base:=base) T F19 a19 H3 H4;have H20:=z9q (P:=P) (w:=w) (base:=base) T F20 a20 H4 H5;have H21:=z73 (P:=P) (w:=w) (base:=base) T F21 a21 H5;have HX22:=z3l (P:=P) (w:=w) (base:=base) T F22 a22 E_NoRule H6;have H22:=z58 (P:=P) (w:=w) (base:=base) T F22 a22 H6;have H23:=z59 (P:=P) (w:=w) (base:=base) T F23 a23 H9;have H24:=z5q (P:=P) (w:=w) (base:=base) T F24 a24 H12;have H25:=z2h (P:=P) (w:=w) (base:=base) T F25 a25 H12;have H26:=z8T (P:=P) (w:=w) (base:=base) T F26 a26 H1 H15;have H27:=z5l (P:=P) (w:=w) (base:=base) T F27 a27 T_RULES H18 H19 H20 H21;have H28:=z2v (P:=P) (w:=w) (base:=base) T F28 a28 H8 H23;have HX29:=z4K (P:=P) (w:=w) (base:=base) T F29 a29 E_NoLot H26;have H29:=z6B (P:=P) (w:=w) (base:=base) T F29 a29 H26;have HX30:=z39 (P:=P) (w:=w) (base:=base) T F30 a30 HX29;have H30:=z4L (P:=P) (w:=w) (base:=base) T F30 a30 H29;have HX31:=qL (P:=P) (w:=w) (base:=base) T F31 a31 HX22 HX29;have H31:=jr (P:=P) (w:=w) (base:=base) T F31 a31 H22 H29;have HX32:=z3b (P:=P) (w:=w) (base:=base) T F32 a32 E_Ended HX30 HX31;have H32:=z5i (P:=P) (w:=w) (base:=base) T F32 a32 H30 H31;have HX33:=z9T (P:=P) (w:=w) (base:=base) T F33 a33 H7 H27 HX32;have H33:=zdE (P:=P) (w:=w) (base:=base) T F33 a33 H7 H27 H32;have HX34:=z0l (P:=P) (w:=w) (base:=base) T F34 a34 H2 H30 H33;have HX35:=z48 (P:=P) (w:=w) (base:=base) T F35 a35 HX30 HX33;have HX36:=z5D (P:=P) (w:=w) (base:=base) T F36 a36 E_TooMany H28 HX16 HX31 HX35;have HX37:=z2Q (P:=P) (w:=w) (base:=base) T F37 a37 HX16 HX17 HX22 HX34;have H38:=z4I (P:=P) (w:=w) (base:=base) T F38 a38 KS H13 HX36 HX37;have H39:=z8L (P:=P) (w:=w) (base:=base) T F39 a39 H10 H11 H12 H14 H24 H25 H38;exact zj6 (x:="law") H39 zdp
theorem boot_:∀w:World,(W.fencedOpening treeTable PySem.Challenge.pw_drawndown_k73_no_backs w 10502).map (λs=>(s.heap,s.gens,s.drawn,s.toks))=some (W.boot_heap w.params,Array.mk [],W.boot_drawn,W.boot_toks):= W.boot_open (by kernel_rfl) (by decide) (λs=>by kernel_rfl)
theorem left_:W.LeftO PySem.Challenge.pw_drawndown_k73_no_backs qv looseQ xtQ (obsS askQ) (valS askQ) 10502:=zbt "special-get-raises" boot_ (λw os=>z3y (f:=λs=>(seenQ s,obsS askQ s)) (zl6 w) (bsz w) (z6I (z5k w os) (z5S w os))) (λw os=>z3y (f:=λs=>(seenQ s,obsS askQ s)) (zl6 w) (bsz w) (z6I (z7b w os) (z7m w os)))
end K73
open PySem.W
set_option maxRecDepth 100000 in
set_option maxHeartbeats 0 in
theorem PySem.Challenge.cw_drawndown_k73_no_backs_holds : PySem.Challenge.rw_drawndown_k73_no_backs.Holds := by
  w_on; o_law
  refine holds_open (q := K73.qv) (loose := K73.looseQ) (Xt := K73.xtQ) (XP := XL K73.qv K73.lvQ) (Yf := Dd.obsS K73.askQ) (Ya := Dd.valS K73.askQ) (YP := Dd.saysS K73.askQ) (N := 10502) K73.left_ (Dd.zeO K73.askQ) (Dd.z9m K73.askQ) (λs e => xl_of s (Bool.and_eq_true_iff.mp e).1) XL.keeps (by rfl) (by rfl) (by rfl) (λs e => recFacts_of (Bool.and_eq_true_iff.mp e).2) (by rfl) (by first | assumption | decide +kernel) (by decide +kernel) ⟨rfl, rfl, rfl, rfl, rfl, by decide +kernel⟩ ?hw ?hc
  (case hw => w_witness2)
  refine Dd.walkY (l := PySem.Challenge.rw_drawndown_k73_no_backs) (n := 63) (k := 11) (x := "_law_script") rfl (by decide) (by decide) rfl ⟨rfl, by decide, by decide, rfl⟩ ?F
  case F =>
    intro w mg fa h Yy G hmg XP
    obtain⟨K, KX, e⟩ := Yy
    exact⟨K, KX, K73.all_mk KX G hmg e ⟩
