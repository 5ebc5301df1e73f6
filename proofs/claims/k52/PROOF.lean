import PyProof.Rows.All
import Wide.All
import OpenK.AllK
import Wide.FinOn
import Lean
import PyProof.EqAt
import PyProof.EqKinds
import PyProof.TupleCall
import PyProof.ExcArgsOwn
import PyProof.ExcAttrAll.ValueError
import PyProof.ListMulRoad
import PyProof.Rows.Range3
import KE.KDictLaws
import PyProof.Rows.CallKwBuiltin
import PyProof.Rows.SortRuns
import PySem.Challenge.RW_drawndown_k52_clashes
set_option Elab.async false
set_option linter.all false
set_option maxRecDepth 100000
set_option maxHeartbeats 1000000
set_option exponentiation.threshold 5000
open PySem PySem.Spec PyProof.Rows
abbrev _a:=@wpAny_bind
abbrev _b:=@List.getElem?_eq_some_iff
abbrev _c:=@wpAny_pure
abbrev _d:=@List.mem_of_getElem?
abbrev _e:=@Heap.get?_push_of_some
abbrev _f:=@Nat.le_refl
abbrev _g:=@if_pos
abbrev _h:=@List.mem_cons
abbrev _i:=@wpS_bind
abbrev _j:=@if_neg
abbrev _k:=@List.size_toArray
abbrev _l:=@List.map_cons
abbrev _m:=@decide_eq_true_eq
abbrev _n:=@List.getElem?_eq_getElem
abbrev _o:=@List.length_map
abbrev _p:=@Bool.and_eq_true
abbrev _q:=@wpS_pure
abbrev _r:=@Heap.lt_size
abbrev _s:=@List.length_cons
abbrev _t:=@Heap.get?_push_size
abbrev _u:=@List.getElem?_append_left
abbrev _v:=@Option.some.inj
abbrev _w:=@Nat.lt_of_lt_of_le
abbrev _x:=@List.mem_append_right
abbrev _y:=@List.mem_map
abbrev _z:=@wpAny_mono
abbrev _A:=@Option.map_eq_some_iff
abbrev _B:=@Bool.false_eq_true
abbrev _C:=@List.mem_cons_of_mem
abbrev _D:=@Option.some.injEq
abbrev _E:=@List.mem_append
abbrev _F:=@List.length_nil
abbrev _G:=@Nat.ne_of_lt
abbrev _H:=@List.length_append
abbrev _I:=@List.getElem?_set_ne
abbrev _J:=@PyProof.Rows.slot_tuple_getitem
abbrev _K:=@List.mem_filter
abbrev _L:=@wpAny_newObj_type
abbrev _M:=@Nat.le_trans
abbrev _N:=@if_true
abbrev _O:=@decide_eq_false
abbrev _P:=@List.getElem?_set_self
abbrev _Q:=@List.getElem?_append_right
abbrev _R:=@List.getElem?_map
abbrev _S:=@List.getD_eq_getElem?_getD
abbrev _T:=@List.append_assoc
abbrev _U:=@List.mem_cons_self
abbrev _V:=@Array.length_toList
abbrev _W:=@List.mem_of_mem_take
abbrev _X:=@List.cons_append
abbrev _Y:=@List.mem_iff_getElem
abbrev _Z:=@List.not_mem_nil
abbrev _aa:=@decide_eq_true
abbrev _ab:=@if_false
abbrev _ac:=@wpAny_callSpecial?_slot
abbrev _ad:=@decide_eq_false_iff_not
abbrev _ae:=@List.length_take
abbrev _af:=@wpAny_call_entry
abbrev _ag:=@List.all_eq_true
abbrev _ah:=@List.zipWith_cons_cons
abbrev _ai:=@PySem.mem_of_lookup
abbrev _aj:=@Nat.zero_add
abbrev _ak:=@wpAny_truthy_bool
abbrev _al:=@Array.toList_push
abbrev _am:=@wpAny_field
abbrev _an:=@Heap.get?_update_other
abbrev _ao:=@List.mem_singleton
abbrev _ap:=@PassesOwn.never
abbrev _aq:=@List.lookup_cons
abbrev _ar:=@Option.bind_some
abbrev _as:=@List.eq_of_mem_replicate
abbrev _at:=@wpAny_rule
abbrev _au:=@Int.eq_ofNat_of_zero_le
abbrev _av:=@List.getElem?_cons_zero
abbrev _aw:=@Heap.size_push
abbrev _ax:=@Nat.lt_irrefl
abbrev _ay:=@wpAny_holding
abbrev _az:=@Nat.le_of_lt
abbrev _aA:=@List.take_of_length_le
abbrev _aB:=@PySem.F.plain_min_loop
abbrev _aC:=@List.mem_or_eq_of_mem_set
abbrev _aD:=@List.take_append_drop
abbrev _aE:=@List.getElem?_take_of_lt
abbrev _aF:=@wpAny_seqItems
abbrev _aG:=@Bool.true_and
abbrev _aH:=@F.slot_dict_keyiterator_next
abbrev _aI:=@List.map_map
abbrev _aJ:=@wpS_forRange
abbrev _aK:=@List.getElem?_cons_succ
abbrev _aL:=@Nat.pow_le_pow_right
abbrev _aM:=@wpAny_standAt
abbrev _aN:=@Nat.lt_succ_of_lt
abbrev _aO:=@Function.comp_def
abbrev _aP:=@Bool.not_eq_true'
abbrev _aQ:=@List.replicate_succ
abbrev _aR:=@wpAny_loadPart'
abbrev _aS:=@List.cons.injEq
abbrev _aT:=@List.drop_eq_getElem_cons
abbrev _aU:=@List.getElem_inj
abbrev _aV:=@List.prefix_refl
abbrev _aW:=@wpS_modify
abbrev _aX:=@Prod.mk.injEq
abbrev _aY:=@List.mem_append_left
abbrev _aZ:=@Nat.zero_le
abbrev _a0:=@wpAny_typeNameOfWhole_keyiter
abbrev _a1:=@Ne.symm
abbrev _a2:=@Option.bind_eq_some_iff
abbrev _a3:=@of_decide_eq_true
abbrev _a4:=@List.nodup_cons
abbrev _a5:=@List.foldl_cons
abbrev _a6:=@Option.map_some
abbrev _a7:=@PyProof.Rows.callWith_type1
abbrev _a8:=@Array.getD_eq_getD_getElem?
abbrev _a9:=@List.getElem_mem
abbrev _ba:=@congrArg
abbrev _bb:=@Bool.false_ne_true
abbrev _bc:=@Calls.spliced_cons
abbrev _bd:=@F.slot_tuple_iterator_next
abbrev _be:=@wpAny_setField_rec
abbrev _bf:=@List.pairwise_cons
abbrev _bg:=@PySem.F.slot_tuple_lt
abbrev _bh:=@Heap.get?_update_self
abbrev _bi:=@PySem.F.slot_dict_get
abbrev _bj:=@List.length_filter_le
abbrev _bk:=@List.flatten_cons
abbrev _bl:=@Nat.lt_of_succ_lt
abbrev _bm:=@wpAny_comprehension_free
abbrev _bn:=@Bool.not_true
abbrev _bo:=@Heap.SameBut.update
abbrev _bp:=@List.length_drop
abbrev _bq:=@Nat.le_add_right
abbrev _br:=@Nat.mul_le_mul
abbrev _bs:=@or_false
abbrev _bt:=@List.Nodup.length_le_of_subset
abbrev _bu:=@wpAny_Call_Name_kw
abbrev _bv:=@List.zip_cons_cons
abbrev _bw:=@SeqAt.canLay_of_shaped
abbrev _bx:=@Array.append_empty
abbrev _by:=@List.find?_cons
abbrev _bz:=@W.kia_one
abbrev _bA:=@Bool.and_true
abbrev _bB:=@List.length_singleton
abbrev _bC:=@List.reverse_cons
abbrev _bD:=@List.mem_range
abbrev _bE:=@wpS_mono
abbrev _bF:=@Array.perm_iff_toList_perm
abbrev _bG:=@mirror_perm
abbrev _bH:=@List.mem_of_mem_drop
abbrev _bI:=@Nat.div_le_of_le_mul
abbrev _bJ:=@Int.sub_mul
abbrev _bK:=@Nat.lt_succ_self
abbrev _bL:=@Classical.byContradiction
abbrev _bM:=@List.filterMap_cons
abbrev _bN:=@PySem.F.args_tuple_add_2
abbrev _bO:=@wpAny_passesOwn
abbrev _bP:=@List.of_mem_zip
abbrev _bQ:=@beq_iff_eq
abbrev _bR:=@List.lookup_append
abbrev _bS:=@wpAny_tupleItemsOf
abbrev _bT:=@Int.emod_lt_of_pos
abbrev _bU:=@Nat.lt_of_le_of_lt
abbrev _bV:=@PySem.F.args_tuple_lt_2
abbrev _bW:=@PySem.F.entry_tuple_add
abbrev _bX:=@PySem.F.args_dict_get_3
abbrev _bY:=@PySem.F.plainAttrs_dict
abbrev _bZ:=@List.length_eq_zero_iff
abbrev _b0:=@wpAny_letGo
abbrev _b1:=@wpAny_assign_Name
abbrev _b2:=@Calls.spliced_nil
abbrev _b3:=@PySem.F.entry_tuple_lt
abbrev _b4:=@PySem.F.slot_tuple_add
abbrev _b5:=@Int.toNat_natCast
abbrev _b6:=@Calls.callWith_builtin
abbrev _b7:=@PySem.F.entry_dict_get
abbrev _b8:=@Nat.mul_comm
abbrev _b9:=@List.pairwise_map
abbrev _ca:=@PySem.F.slot_list_iadd
abbrev _cb:=@wpS_get
abbrev _cc:=@Array.getElem?_extract
abbrev _cd:=@Nat.add_zero
abbrev _ce:=@PySem.F.entry_min_loop
abbrev _cf:=@wpAny_tryCatch
abbrev _cg:=@Array.toList_eraseIdxIfInBounds
abbrev _ch:=@List.length_replicate
abbrev _ci:=@exec_Assign_Name_used
abbrev _cj:=@List.perm_append_comm
abbrev _ck:=@call_meets
abbrev _cl:=@List.drop_length
abbrev _cm:=@wpAny_isInstance
abbrev _cn:=@Option.getD_some
abbrev _co:=@F.slot_tuple_mul
abbrev _cp:=@F.args_dict_keyiterator_next_1
abbrev _cq:=@wpAny_attempt
abbrev _cr:=@Calls.evalArgs_plain
abbrev _cs:=@wpAny_of_eq
abbrev _ct:=@wpAny_updateSeq_pair
abbrev _cu:=@F.entry_dict_keyiterator_next
abbrev _cv:=@Around.under_plainId
abbrev _cw:=@List.eq_nil_of_length_eq_zero
abbrev _cx:=@List.replicate_succ'
abbrev _cy:=@pushCells_keeps
abbrev _cA:=@F.slot_zip_next
abbrev _cB:=@Int.natCast_mul
abbrev _cC:=@F.slot_int_rmul
abbrev _cE:=@Int.emod_nonneg
abbrev _cG:=@List.map_append
abbrev _cH:=@PyProof.Rows.lt_int
abbrev _cI:=@entry_tuple_getitem
abbrev _cJ:=@List.getElem?_range
abbrev _cK:=@List.length_pos_iff
abbrev _cL:=@List.filter_eq_self
abbrev _cM:=@Int.toNat_of_nonneg
abbrev _cN:=@Nat.pow_le_pow_left
abbrev _cO:=@List.getD_cons_zero
abbrev _cP:=@List.getD_cons_succ
abbrev _cQ:=@wpAny_typeOf
abbrev _cU:=@assignInOrder_cons
abbrev _cV:=@List.mem_filterMap
abbrev _cW:=@Prod.ext
abbrev _cX:=@slicePart_none
abbrev _cY:=@args_tuple_getitem
abbrev _cZ:=@Option.isSome_some
abbrev _c0:=@wpAny_setField
abbrev _c1:=@List.take_succ
abbrev _c2:=@Bool.not_false
abbrev _c3:=@wpS_lift
abbrev _c4:=@Array.size_extract
abbrev _c5:=@Bool.not_eq_false'
abbrev _c6:=@Nat.eq_zero_or_pos
abbrev _db:=@List.take_sublist
abbrev _dc:=@wpAny_sequenceKey
abbrev _dd:=@Nat.le_of_succ_le
abbrev _de:=@wpAny_dictEntries
abbrev _df:=@List.take_add_one
abbrev _dg:=@Paired.length
abbrev _di:=@wpAny_onRaise
abbrev _dk:=@plainId_quiet
abbrev _dl:=@Bool.and_self
abbrev _dm:=@wpAny_eqBool_int
abbrev _do:=@wpAny_forIn_list
abbrev _dp:=@noFill_tuple_add
abbrev _dq:=@List.zipIdx_cons
abbrev _dr:=@List.take_length
abbrev _ds:=@List.mem_flatMap
abbrev _dw:=@codeAny_mono
abbrev _dy:=@typeIs_int
abbrev _dA:=@call_meetsIn
abbrev _dC:=@getElem?_pos
abbrev _dE:=@List.all_map
noncomputable section
namespace Dd
noncomputable def dArgs(s:Stmt):Arguments:=match s with
 | .FunctionDef _ a _ _ _ _ _ _ _ _=>a | _=>{posonlyargs:=[],args:=[],vararg:=none,kwonlyargs:=[],kw_defaults:=[],kwarg:=none,defaults:=[]}
noncomputable def zeg(s:Stmt):List Stmt:=match s with
 | .FunctionDef _ _ b _ _ _ _ _ _ _=>b | _=>[]
noncomputable def zaT(s:Stmt):Scope:=match s with
 | .FunctionDef _ _ _ _ _ _ sc _ _ _=>sc | _=>{kind:=.function,names:=[],isGenerator:=false,isCoroutine:=false}
noncomputable def z4O(h:Heap)(a:Addr):W.Frag:=match h.get? a with | some o=>[(a,o)] | none=>[]
noncomputable def zgV(h:Heap)(g:W.Frag)(x:Str):W.Frag:=match W.nsIn g mainGlobals x with
 | some (some (.ref f))=>z4O h f++(match h.get? f with
   | some ⟨_,_,.func fd,_⟩=>(match fd.code with | .ref c=>z4O h c | _=>[]) | some ⟨_,_,.cls cd,_⟩=>z4O h cd.ns | _=>[]) | _=>[]
noncomputable def gat(h:Heap)(ns:List Str):W.Frag:=z4O h mainGlobals++ns.flatMap (zgV h (z4O h mainGlobals))
abbrev FV:=Str×Str×Arguments×FuncBody×Scope×Addr×List (Str×Addr)×Value×Addr×Bool×Bool
noncomputable def zcH(K:W.Frag)(x:Str):Option FV:=match W.nsIn K mainGlobals x with
 | some (some (.ref f))=>(match K.lookup f with
   | some ⟨_,_,.func fd,_⟩=>some (fd.name,fd.qualname,fd.params,fd.body,fd.scope,fd.globals,fd.closure,fd.defaults,fd.builtins,W.codeIn K fd.code fd.qualname,W.keepIn K (.ref f)) | _=>none) | _=>none
noncomputable def zfW(x:Str)(st:Stmt):Option FV:=some (x,x,dArgs st,.stmts (zeg st),zaT st,mainGlobals,[],.none,builtinsNs,true,true)
noncomputable def zc9(K:W.Frag)(x:Str):Bool:=match W.nsIn K mainGlobals x with | some none=>true | _=>false
noncomputable def zd8(K:W.Frag)(x:Str):Option Int:=match W.nsIn K mainGlobals x with | some (some (.int i _))=>some i | _=>none
noncomputable def sameRef:Value->Option (Option Value)->Bool
 | .ref f,some (some (.ref g))=>f==g | _,_=>false
noncomputable def zf9:Value->Option Str
 | .str k _=>some k | _=>none
noncomputable def z7V:Value->Bool
 | .type c=>c=="dict" | _=>false
noncomputable def zdx(K:W.Frag):List DictEntry->List Str->List (Int×Option Str×Bool)
 | e::es,y::ys=>(e.hash,zf9 e.key,sameRef e.val (W.nsIn K mainGlobals y))::zdx K es ys | [],[]=>[] | _,_=>[(0,none,false)]
noncomputable def zgi(K:W.Frag)(x:Str)(ys:List Str):Option (Bool×Bool×Bool×Bool×List (Int×Option Str×Bool)):=match W.nsIn K mainGlobals x with
 | some (some (.ref a))=>(match K.lookup a with
   | some ⟨c,d,.dict es _,sl⟩=>some (z7V c,d.isNone,sl.size==0,a==sysModules,zdx K es.toList ys) | _=>none) | _=>none
noncomputable def zhd(w:World)(tb:List (Str×Str)):Option (Bool×Bool×Bool×Bool×List (Int×Option Str×Bool)):=some (true,true,true,false,tb.map λp=>(PyData.keyHash w.params p.1,some p.1,true))
noncomputable def zeU:List Value->Option (List Int)
 | []=>some [] | .int i _::r=>(zeU r).map (i::·) | _=>none
noncomputable def z9u:Value->Bool
 | .type c=>c=="tuple" | _=>false
noncomputable def zfJ(K:W.Frag)(x:Str):Option (Bool×Option (List Int)):=match W.nsIn K mainGlobals x with
 | some (some (.ref a))=>(match K.lookup a with
   | some ⟨c,_,.seq its _,_⟩=>some (z9u c,zeU its.toList) | _=>none) | _=>none
noncomputable def bmV:List Value:=[.type "ValueError",.type "Exception",.type "BaseException",.type "object"]
noncomputable def z8p(K:W.Frag)(C:Addr):Bool:=match K.lookup C with | some ⟨.type t,_,.cls _,_⟩=>t=="type" | _=>false
noncomputable def zfI(K:W.Frag)(x:Str):Bool:=match W.nsIn K mainGlobals x with
 | some (some (.ref C))=>W.excIn K C bmV "ValueError.__new__"&&(W.findIn K (.ref C) "__getattribute__"==some (some (.builtin "BaseException.__getattribute__"))&&(W.findIn K (.ref C) "__getattr__"==some none && (W.findIn K (.ref C) "__class__"==some (some (.builtin "object.__class__"))&&(W.mroIn K C (.type "object")==some true&&(W.mroIn K C (.type "BaseException")==some true&&(z8p K C&&W.kitOne K (.ref C) (.type "ValueError")==some true)))))) | _=>false
noncomputable def zdK(K:W.Frag)(x y:Str):Option (Option Bool×Option Bool):=match W.nsIn K mainGlobals x,W.nsIn K mainGlobals y with
 | some (some (.ref C)),some (some (.ref D))=>some (W.mroIn K C (.ref D),W.kitOne K (.ref C) (.ref D)) | _,_=>none
abbrev Obs:=List (Option FV)×List Bool×List (Option Int)×List (Option (Bool×Bool×Bool×Bool×List (Int×Option Str×Bool)))×List (Option (Bool×Option (List Int)))×List Bool×List (Option (Option Bool×Option Bool))
structure Ask where
 fs:List (Str×Stmt)
 bs:List Str
 cs:List (Str×Int)
 ts:List (Str×List (Str×Str))
 us:List (Str×List Int)
 xs:List Str
 ps:List ((Str×Str)×Bool)
noncomputable def z9D(q:Ask)(K:W.Frag):Obs:=(q.fs.map λp=>zcH K p.1,q.bs.map (zc9 K),q.cs.map λp=>zd8 K p.1,q.ts.map (λp=>zgi K p.1 (p.2.map (·.2))),q.us.map (λp=>zfJ K p.1),q.xs.map (zfI K),q.ps.map λp=>zdK K p.1.1 p.1.2)
noncomputable def obsS(q:Ask)(s:Shared):Obs:=z9D q (gat s.heap (q.fs.map (·.1)++q.ts.map (·.1)++q.us.map (·.1)++q.xs))
noncomputable def valS(q:Ask)(w:World):Obs:=(q.fs.map λp=>zfW p.1 p.2,q.bs.map λ_=>true,q.cs.map λp=>some p.2,q.ts.map (λp=>zhd w p.2),q.us.map (λp=>some (true,some p.2)),q.xs.map λ_=>true,q.ps.map λp=>some (some p.2,some p.2))
noncomputable def z16(tb:String->Option Builtin)(p:Program)(w:World)(n₀:Nat)(ann:Option Value):Nat->W.SharedT->Thread->Option W.SharedT
 | 0,_,_=>none | n+1,s,t=>match W.through t with
  | true=>some s | false=>match W.stepOk n₀ ann t with
   | false=>none | true=>match W.stepT (denote tb) p w s t with
    | some (s',t')=>z16 tb p w n₀ ann n s' t' | none=>none
noncomputable def zdX(l:List Obj):W.BT×Nat:=l.foldl (λa o=>(a.1.ins a.2 o,a.2+1)) (W.BT.nil,0)
def zdD(P:Params):W.BT:=(zdX (W.boot_heap P).objs.toList).1
end Dd
namespace K52
open Dd
noncomputable def top(i:Nat):Stmt:=PySem.Challenge.pw_drawndown_k52_clashes.main.body.getD i (.Pass ⟨0,0,0,0⟩)
noncomputable abbrev jh:Stmt:=top 8
noncomputable abbrev jc:Stmt:=top 10
noncomputable abbrev wq:Stmt:=top 12
noncomputable abbrev qW:Stmt:=top 17
noncomputable abbrev z0T:Stmt:=top 23
noncomputable abbrev z0x:Stmt:=top 29
noncomputable abbrev z3f:Stmt:=top 30
noncomputable abbrev vc:Stmt:=top 32
noncomputable abbrev jj:Stmt:=top 33
noncomputable abbrev qE:Stmt:=top 34
noncomputable abbrev uE:Stmt:=top 35
noncomputable abbrev jf:Stmt:=top 37
noncomputable abbrev uh:Stmt:=top 39
noncomputable abbrev ud:Stmt:=top 9
noncomputable abbrev vJ:Stmt:=top 11
noncomputable abbrev xO:Stmt:=top 24
noncomputable abbrev vz:Stmt:=top 36
noncomputable abbrev wz:Stmt:=top 38
noncomputable abbrev vh:Stmt:=top 40
noncomputable abbrev wO:Stmt:=top 41
noncomputable abbrev qo:Stmt:=top 42
noncomputable abbrev z1h:Stmt:=top 14
noncomputable abbrev qD:Stmt:=top 27
noncomputable abbrev qX:Stmt:=top 15
noncomputable abbrev uo:Stmt:=top 21
noncomputable abbrev yM:Stmt:=top 22
noncomputable abbrev ji:Stmt:=top 25
noncomputable abbrev qY:Stmt:=top 26
noncomputable abbrev vO:Stmt:=top 28
noncomputable abbrev z1I:Stmt:=top 43
noncomputable def askQ:Ask:=⟨[(("is_whole":Str),jh), (("has_size":Str),jc), (("tuples_between":Str),wq), (("together":Str),qW), (("weight":Str),z0T), (("turned":Str),z0x), (("above":Str),z3f), (("_law_cell_at":Str),vc), (("_law_pot":Str),jj), (("_law_take":Str),qE), (("_law_whole":Str),uE), (("_law_sum":Str),jf), (("_law_every":Str),uh), (("are_wholes":Str),ud), (("want_number":Str),vJ), (("relations_within":Str),xO), (("_law_same":Str),vz), (("_law_small_lot":Str),wz), (("_law_clashes":Str),vh), (("_law_is_clash":Str),wO), (("_law_bent":Str),qo), (("is_lot":Str),z1h), (("is_taking":Str),qD), (("want_lot":Str),qX), (("want_small":Str),uo), (("want_small_and_often":Str),yM), (("has_none":Str),ji), (("is_clash":Str),qY), (("first_clash":Str),vO), (("law":Str),z1I)], [("abs":Str),("all":Str),("bool":Str),("int":Str),("isinstance":Str),("len":Str),("list":Str),("max":Str),("min":Str),("range":Str),("sorted":Str),("str":Str),("sum":Str),("tuple":Str),("zip":Str)], [(("LEAST_SIZE":Str),(2:Int)),(("MOST_NUMBER":Str),(1000:Int)),(("MOST_OFTEN":Str),(8:Int)),(("MOST_SIZE":Str),(4:Int))], [], [], [], []⟩
noncomputable def qv:Program:=W.view PySem.Challenge.pw_drawndown_k52_clashes [43]
noncomputable def looseQ:List Str:=[("DrawError":Str),("NoLot":Str),("NoNumber":Str),("TooMany":Str),("LEAST_SIZE":Str),("MOST_SIZE":Str),("is_whole":Str),("are_wholes":Str),("has_size":Str),("want_number":Str),("tuples_between":Str),("is_lot":Str),("want_lot":Str),("together":Str),("MOST_NUMBER":Str),("MOST_OFTEN":Str),("want_small":Str),("want_small_and_often":Str),("weight":Str),("relations_within":Str),("has_none":Str),("is_clash":Str),("is_taking":Str),("first_clash":Str),("turned":Str),("above":Str),("_law_cell_at":Str),("_law_pot":Str),("_law_take":Str),("_law_whole":Str),("_law_same":Str),("_law_sum":Str),("_law_small_lot":Str),("_law_every":Str),("_law_clashes":Str),("_law_is_clash":Str),("_law_bent":Str)]
noncomputable def lvQ:List (Str×W.WData):=[]
noncomputable def xtQ:Shared->Bool:=λs=>W.xlAt qv lvQ s&&W.recOk (W.RowW.records (W.OpenRow.toRowW (W.OpenLaw.row PySem.Challenge.rw_drawndown_k52_clashes))) s
theorem zhg:∀w:World,W.absHeap (zdD w.params) 11 (W.boot_heap w.params).life=W.boot_heap w.params:=by
 intro w;kernel_rfl
theorem bsz:∀w:World,((W.boot_heap w.params).isNs mainGlobals&&(Array.mk []:Array GenState).size==0,(W.boot_heap w.params).objs.size,(W.boot_heap w.params).nsMap mainGlobals "__annotations__")=(true,11,(some (.ref 6))):=by
 intro w;kernel_rfl
def zgO(w v:World)(os:OsState):Option W.SharedT:=z16 treeTable PySem.Challenge.pw_drawndown_k52_clashes v 11 (some (.ref 6)) 3658 ⟨zdD w.params,11,(W.boot_heap w.params).life,Array.mk [],W.boot_drawn,W.boot_toks,os⟩ (W.topStub PySem.Challenge.pw_drawndown_k52_clashes)
def zgq(w:World)(s:W.SharedT):Bool:=W.staticsOk (importedModules PySem.Challenge.pw_drawndown_k52_clashes.main.body) (W.boot_heap w.params) s.abs.heap&&W.namesBound PySem.Challenge.pw_drawndown_k52_clashes s.abs.heap&&W.gensDone s.abs&&W.laidKept (W.boot_heap w.params) s.abs.heap
noncomputable def seenQ(s:Shared):=W.openSeen qv looseQ (importedModules PySem.Challenge.pw_drawndown_k52_clashes.main.body) xtQ true s
set_option maxRecDepth 1000000 in
theorem z9z:∀(w:World)(os:OsState),(zgO w w os).map (λs=>(zgq w s,obsS askQ s.abs))=some (true,valS askQ w):=by
 intro w os;kernel_rfl
set_option maxRecDepth 1000000 in
theorem za1:∀(w:World)(os:OsState),(zgO w w os).map (λs=>seenQ s.abs)=some (W.openGood qv looseQ):=by
 intro w os;kernel_rfl
set_option maxRecDepth 1000000 in
theorem said_:W.OpenLaw.wellSaid PySem.Challenge.rw_drawndown_k52_clashes=true:=by kernel_rfl
end K52
namespace L2
abbrev Key:=Sum Int Str
noncomputable def z53:Key->Value->Bool
 | .inl k,v=>Value.isInt k v | .inr x,v=>Value.isStrOf x v
noncomputable def zhR(w:World):Key->Int
 | .inl k=>hashInt k | .inr x=>hashStr w x
theorem yu:∀{k:Key} {v:Value},z53 k v=true->(∃i t,k=Sum.inl i/\v=Value.int i t)\/(∃x t,k=Sum.inr x/\v=Value.str x t)
 | .inl i,v,h=>by
  obtain⟨t,e⟩:=Value.isInt_shape (k:=i) (v:=v) h;exact .inl ⟨i,t,rfl,e⟩ | .inr x,v,h=>by
  obtain⟨t,e⟩:=Value.isStrOf_shape (x:=x) (v:=v) h;exact .inr ⟨x,t,rfl,e⟩
theorem z7k(i:Int)(t:Tok):z53 (.inl i) (.int i t)=true:=by simp[z53,Value.isInt]
theorem z8v(x:Str)(t:Tok):z53 (.inr x) (.str x t)=true:=by simp[z53,Value.isStrOf]
theorem zf8(a b:Int):decide ((Sum.inl a:Key)=Sum.inl b)=(a==b):=by
 by_cases e:a=b;·subst e;simp
 ·have h:¬ (Sum.inl a:Key)=Sum.inl b:=λq=>e (Sum.inl.inj q);rw[_O h];exact (beq_eq_false_iff_ne.mpr e).symm
theorem zff(a b:Str):decide ((Sum.inr a:Key)=Sum.inr b)=decide (a=b):=by
 by_cases e:a=b;·subst e;simp
 ·have h:¬ (Sum.inr a:Key)=Sum.inr b:=λq=>e (Sum.inr.inj q);rw[_O h,_O e]
theorem zdS(a:Int)(b:Str):decide ((Sum.inl a:Key)=Sum.inr b)=false:=_O (λq=>nomatch q)
theorem zdY(a:Str)(b:Int):decide ((Sum.inr a:Key)=Sum.inl b)=false:=_O (λq=>nomatch q)
noncomputable def yJ(prog:Program)(w:World):PySem.KeyKind prog w Key where
 is:=z53;hash:=zhR w;inj:=λv a b ha hb=>by
  rcases yu ha with⟨i,t,rfl,rfl⟩ | ⟨x,t,rfl,rfl⟩
  ·rcases yu hb with⟨j,u,rfl,e⟩ | ⟨y,u,rfl,e⟩;·injection e with e1 _;rw[e1]
   ·exact nomatch e
  ·rcases yu hb with⟨j,u,rfl,e⟩ | ⟨y,u,rfl,e⟩;·exact nomatch e
   ·injection e with e1 _;rw[e1]
 byValue:=λk v h=>by rcases yu h with⟨i,t,rfl,rfl⟩ | ⟨x,t,rfl,rfl⟩<;>rfl
 pyHash:=λhv h=>by
  rcases yu hv with⟨i,t,rfl,rfl⟩ | ⟨x,t,rfl,rfl⟩;·exact wpAny_pyHash_int h
  ·exact wpAny_pyHash_str h
 eqBool:=λhu hv h=>by
  rcases yu hu with⟨i,t,rfl,rfl⟩ | ⟨x,t,rfl,rfl⟩
  ·rcases yu hv with⟨j,u,rfl,rfl⟩ | ⟨y,u,rfl,rfl⟩;·rw[zf8]at h;exact _dm h
   ·rw[zdS]at h;exact SeqAt.EqAt.int_str i t y u _ _ _ _ h
  ·rcases yu hv with⟨j,u,rfl,rfl⟩ | ⟨y,u,rfl,rfl⟩;·rw[zdY]at h;exact SeqAt.EqAt.str_int x t j u _ _ _ _ h
   ·rw[zff]at h;exact wpAny_eqBool_str h
 «strs» := λk x t v h=>by
  rcases yu h with⟨i,u,rfl,e⟩ | ⟨y,u,rfl,e⟩;·exact nomatch e
  ·injection e with e1 _;subst e1;cases v<;>rfl
theorem z4C(prog:Program)(w:World)(i:Int)(t:Tok):(yJ prog w).is (.inl i) (.int i t)=true:=z7k i t
theorem z4Q(prog:Program)(w:World)(x:Str)(t:Tok):(yJ prog w).is (.inr x) (.str x t)=true:=z8v x t
inductive V where | non | bl (b:Bool) | int (i:Int) | str (x:Str) | byt (b:Array UInt8) | flt (b:UInt64) | ref (a:Addr) | ty (n:String) deriving DecidableEq
def yq:V->Value->Prop
 | .non,u=>u=Value.none | .bl b,u=>u=Value.bool b | .int i,u=>∃t,u=Value.int i t | .str x,u=>∃t,u=Value.str x t | .byt b,u=>∃t,u=Value.bytes b t | .flt b,u=>∃t,u=Value.float b t | .ref a,u=>u=Value.ref a | .ty n,u=>u=Value.type n
abbrev yF:List V->List Value->Prop:=Paired yq
theorem yF.length{xs:List V}{us:List Value}(r:yF xs us):xs.length=us.length:=_dg r
theorem yF.get:∀{xs:List V} {us:List Value} {i:Nat} {x:V},yF xs us->xs[i]? = some x->∃u,us[i]? = some u/\yq x u
 | _,_,_,_,.nil,e=>by simp at e | _,_,0,_,.cons r _,e=>by simp at e;subst e;exact⟨_,rfl,r⟩ | _,_,i+1,x,.cons _ t,e=>by
  obtain⟨u,h1,h2⟩:=yF.get (i:=i) (x:=x) t (by simpa using e);exact⟨u,by simpa using h1,h2⟩
theorem yF.set{x:V}{u:Value}(r:yq x u):∀{xs:List V}{us:List Value}(i:Nat),yF xs us->yF (xs.set i x) (us.set i u)
 | _,_,_,.nil=>.nil | _,_,0,.cons _ t=>.cons r t | _,_,i+1,.cons q t=>.cons q (yF.set r i t)
theorem yF.append:∀{xs ys:List V}{us ws:List Value},yF xs us->yF ys ws->yF (xs++ys) (us++ws)
 | _,_,_,_,.nil,s=>s | _,_,_,_,.cons r t,s=>.cons r (yF.append t s)
theorem yF.take:∀{xs:List V}{us:List Value}(n:Nat),yF xs us->yF (xs.take n) (us.take n)
 | _,_,0,_=>.nil | _,_,_+1,.nil=>.nil | _,_,n+1,.cons r t=>.cons r (yF.take n t)
theorem yF.drop:∀{xs:List V}{us:List Value}(n:Nat),yF xs us->yF (xs.drop n) (us.drop n)
 | _,_,0,r=>r | _,_,_+1,.nil=>.nil | _,_,n+1,.cons _ t=>yF.drop n t
def z93:Option V->Option Value->Prop
 | some v,some u=>yq v u | none,none=>True | _,_=>False
def KV{κ:Type}:List (κ×V)->List (κ×Value)->Prop:=Paired λ(p:κ×V)(q:κ×Value)=>p.1=q.1/\yq p.2 q.2
noncomputable def kV:Key->V
 | .inl i=>.int i | .inr x=>.str x
inductive HO where | lst (xs:List V) | tup (xs:List V) | dK (kvs:List (Key×V)) | dT (kvs:List (List Key×V)) | set (S:Int->Bool)(n:Nat) | ins (C dx:Addr)(fs:List (Str×V)) | own (x:Addr) | xd (fs:List (Str×V)) | met (f x:Addr) | rng (lo hi:Int) | frz (o:Obj)(u:HO) | tbl (ps:Array Value) | ext (φ:Heap->Prop)
abbrev Hp:=Addr->Option HO
noncomputable def upd(H:Hp)(a:Addr)(o:HO):Hp:=λb=>if b=a then some o else H b
theorem zu{H:Hp}{a:Addr}{o:HO}:upd H a o a=some o:=by unfold upd;rw[_g rfl]
theorem zg{H:Hp}{a b:Addr}{o:HO}(h:b≠a):upd H a o b=H b:=by unfold upd;rw[_j h]
theorem z4M{H:Hp}{a:Addr}{o u:HO}:upd (upd H a o) a u=upd H a u:=by funext b;unfold upd;split<;>rfl
theorem yz{H:Hp}{a b:Addr}{o:HO}(h:H a=some o)(h':H b=none):a≠b:=by intro e;subst e;rw[h]at h';cases h'
def z70(h:Heap)(a:Addr)(items:Array Value):Prop:=∃o,h.get? a=some o/\o.cls=.type "tuple"/\o.dict=none/\∃n,o.data=.seq items n
theorem z70.tup{h:Heap}{a:Addr}{items:Array Value}(x:z70 h a items):IsTup h a items:=let ⟨o,e,c,_,r⟩:=x;⟨o,e,c,r⟩
theorem z70.new(h:Heap)(items:Array Value):z70 (h.push {cls:=.type "tuple",data:=.seq items}) h.objs.size items:=⟨_,_t _ rfl,rfl,rfl,_,rfl⟩
theorem z70.lt{h:Heap}{a:Addr}{items:Array Value}(x:z70 h a items):a<h.objs.size:=x.tup.lt
section
variable (P:Program)(w:World)
def yN(H:Hp)(h:Heap)(a:Addr):HO->Prop
 | .lst xs=>xs.length<=sizeLine/\∃(its:List Value)(n:Nat),yF xs its/\h.get? a=some {cls:=.type "list",data:=.seq its.toArray n} | .tup xs=>xs.length<=sizeLine/\∃its:List Value,yF xs its/\z70 h a its.toArray | .dK kvs=>kvs.length<=sizeLine/\(a==sysModules)=false/\∃vs,KV kvs vs/\h.DictOf (yJ P w) a vs | .dT kvs=>kvs.length<=sizeLine/\(a==sysModules)=false/\∃xs:List (List Key×Addr×Value), Paired (λ(p:List Key×V)(q:List Key×Addr×Value)=>p.1=q.1/\H q.2.1=some (.tup (p.1.map kV))/\yq p.2 q.2.2) kvs xs/\ ∃o es ep,h.get? a=some o/\o.ExactDict/\o.data=.dict es ep/\es.toList=xs.map (entryOfKey (tupleKind (yJ P w)))/\(xs.map (·.1)).Nodup | .set S n=>h.SetOf (intKind P w) a S n | .ins C dx fs=>H dx=some (.own a)/\fs.length<=1000/\dx≠a/\h.get? a=some (W.instObj C dx)/\ ∃mA,h.Ns1 dx mA/\(∀f,z93 (fs.lookup f) (mA f))/\PySem.Within mA (fs.map (·.1)) | .own _=>∃o,h.get? a=some o | .xd fs=>∃mA,h.Ns1 a mA/\∀f,z93 (fs.lookup f) (mA f) | .rng lo hi=>∃t u v,h.get? a=some {cls:=.type "range",data:=.fields #[.int lo t,.int hi u,.int 1 v]} | .frz o u=>h.get? a=some o/\yN H h a u | .tbl ps=>h.get? a=some {cls:=.none,data:=.fields ps} | .met f x=>h.get? a=some (W.methodObj (.ref f) (.ref x)) | .ext φ=>φ h/\(∃o,h.get? a=some o)/\∀h1 h2:Heap,φ h1->(∀o,h1.get? a=some o->h2.get? a=some o)->φ h2
def HOk(H:Hp)(h:Heap):Prop:=∀a o,H a=some o->yN P w H h a o
end
section
variable {P:Program}{w:World}{H H':Hp}{h h':Heap}{a:Addr}{o:HO}
theorem yN.lt(x:yN P w H h a o):a<h.objs.size:=by cases o with
 | lst xs=>obtain⟨_,_,_,_,e⟩:=x;exact _r e | tup xs=>obtain⟨_,_,_,p⟩:=x;exact p.lt | dK kvs=>obtain⟨_,_,_,_,o,_,_,e,_⟩:=x;exact _r e | dT kvs=>obtain⟨_,_,_,_,o,_,_,e,_⟩:=x;exact _r e | set S n=>obtain⟨o,_,_,_,e,_⟩:=x;exact _r e | ins C dx fs=>obtain⟨_,_,_,e,_⟩:=x;exact _r e | own y=>obtain⟨_,e⟩:=x;exact _r e | xd fs=>obtain⟨_,⟨_,_,_,e,_⟩,_⟩:=x;exact _r e | rng lo hi=>obtain⟨_,_,_,e⟩:=x;exact _r e | frz ob u=>obtain⟨e,_⟩:=x;exact _r e | tbl ps=>exact _r (show h.get? a=some _ from x) | met f y=>exact _r (show h.get? a=some _ from x) | ext φ=>obtain⟨_,⟨_,e⟩,_⟩:=x;exact _r e
theorem Paired.mapP{α β:Type}{F G:α->β->Prop}:∀{l₁:List α}{l₂:List β},Paired F l₁ l₂->(∀a b,F a b->G a b)->Paired G l₁ l₂
 | _,_,.nil,_=>.nil | _,_,.cons r t,f=>.cons (f _ _ r) (Paired.mapP t f)
theorem yN.stay(x:yN P w H h a o)(k:∀b u,(b=a\/H b=some (.own a))->h.get? b=some u->h'.get? b=some u) (ho:∀b,H b=some (.own a)->H' b=some (.own a))(ht:∀b xs,H b=some (.tup xs)->H' b=some (.tup xs)):yN P w H' h' a o:=by induction o with
 | lst xs=>obtain⟨z,its,n,r,e⟩:=x;exact⟨z,its,n,r,k _ _ (.inl rfl) e⟩ | tup xs=>obtain⟨z,its,r,ob,e,c⟩:=x;exact⟨z,its,r,ob,k _ _ (.inl rfl) e,c⟩ | dK kvs=>obtain⟨z,y,vs,r,ob,es,ep,e,c⟩:=x;exact⟨z,y,vs,r,ob,es,ep,k _ _ (.inl rfl) e,c⟩ | dT kvs=>
  obtain⟨z,y,xs,r,ob,es,ep,e,c⟩:=x;exact⟨z,y,xs,Paired.mapP r λp q z=>⟨z.1,ht _ _ z.2.1,z.2.2⟩,ob,es,ep,k _ _ (.inl rfl) e,c⟩ | set S n=>obtain⟨ob,es,ep,t,e,c⟩:=x;exact⟨ob,es,ep,t,k _ _ (.inl rfl) e,c⟩ | ins C dx fs=>
  obtain⟨d,z,ne,e,mA,⟨od,es,ep,e2,c⟩,r⟩:=x;exact⟨ho _ d,z,ne,k _ _ (.inl rfl) e,mA,⟨od,es,ep,k _ _ (.inr d) e2,c⟩,r⟩ | own y=>obtain⟨ob,e⟩:=x;exact⟨ob,k _ _ (.inl rfl) e⟩ | xd fs=>obtain⟨mA,⟨od,es,ep,e,c⟩,r⟩:=x;exact⟨mA,⟨od,es,ep,k _ _ (.inl rfl) e,c⟩,r⟩ | rng lo hi=>obtain⟨t,u,v,e⟩:=x;exact⟨t,u,v,k _ _ (.inl rfl) e⟩ | frz ob u ih=>obtain⟨e,q⟩:=x;exact⟨k _ _ (.inl rfl) e,ih q⟩ | tbl ps=>
  have e:h.get? a=some {cls:=.none,data:=.fields ps}:=x;show h'.get? a=some {cls:=.none,data:=.fields ps};exact k a _ (.inl rfl) e | met f y=>
  have e:h.get? a=some (W.methodObj (.ref f) (.ref y)):=x;show h'.get? a=some (W.methodObj (.ref f) (.ref y));exact k a _ (.inl rfl) e | ext φ=>obtain⟨p,⟨o,e⟩,st⟩:=x;exact⟨st _ _ p λo q=>k _ _ (.inl rfl) q,⟨o,k _ _ (.inl rfl) e⟩,st⟩
theorem HOk.lt(x:HOk P w H h)(e:H a=some o):a<h.objs.size:=(x a o e).lt
theorem HOk.fresh(x:HOk P w H h)(e:h.objs.size<=a):H a=none:=by cases q:H a with
 | none=>rfl | some u=>exact absurd (_w (x.lt q) e) (_ax _)
theorem HOk.kept(x:HOk P w H h)(k:∀b u,h.get? b=some u->h'.get? b=some u):HOk P w H h':=λa o e=> (x a o e).stay (λb u _ q=>k b u q) (λ_ q=>q) λ_ _ q=>q
theorem HOk.laid(x:HOk P w H h)(k:∀b u,h.get? b=some u->h'.get? b=some u)(hp:h.objs.size<=a)(new:yN P w (upd H a o) h' a o):HOk P w (upd H a o) h':=λb u e=>by
 have hn:=x.fresh hp;by_cases hb:b=a;·subst hb;rw[zu]at e;cases e;exact new
 ·rw[zg hb]at e;exact (x b u e).stay (λc v _ q=>k c v q) (λc q=>by rw[zg (yz q hn)];exact q) λc xs q=>by rw[zg (yz q hn)];exact q
end
def Rd(H:Hp)(a:Addr)(u:HO):Prop:=H a=some u\/∃o,H a=some (.frz o u)
theorem Rd.ok{P:Program}{w:World}{H:Hp}{h:Heap}{a:Addr}{u:HO}(r:Rd H a u)(x:HOk P w H h):yN P w H h a u:=by
 rcases r with r | ⟨o,r⟩;·exact x a u r
 ·obtain⟨_,q⟩:=x a _ r;exact q
def Mut:Option HO->Prop
 | some (.lst _)=>True | some (.dK _)=>True | some (.dT _)=>True | some (.set _ _)=>True | some (.ins _ _ _)=>True | some (.ext _)=>True | _=>False
section
variable {P:Program}{w:World}{H:Hp}{h h':Heap}{x e:Addr}{o':HO}
theorem HOk.write(ok:HOk P w H h)(mu:Mut (H x))(he:e=x\/H e=some (.own x))(k:∀b u,b≠e->h.get? b=some u->h'.get? b=some u)(heo:∃u,h'.get? e=some u) (new:yN P w (upd H x o') h' x o'):HOk P w (upd H x o') h':=λb u q=>by
 have nown:∀c y,H c=some (.own y)->c≠x:=λc y r z=>by subst z;rw[r]at mu;exact mu
 have ntup:∀c xs,H c=some (.tup xs)->c≠x:=λc xs r z=>by subst z;rw[r]at mu;exact mu
 by_cases hb:b=x;·subst hb;rw[zu]at q;cases q;exact new
 ·rw[zg hb]at q;by_cases hbe:b=e
  ·have q':H b=some (.own x):=by
    rcases he with z | z;·exact absurd (hbe.trans z) hb
    ·rw[hbe];exact z
   rw[q]at q';cases q';obtain⟨v,hv⟩:=heo;exact⟨v,by rw[hbe];exact hv⟩
  ·refine (ok b u q).stay (λc v hc r=>k c v ?_ r) (λc r=>by rw[zg (nown c b r)];exact r) λc xs r=>by rw[zg (ntup c xs r)];exact r
   rcases hc with rfl | hc;·exact hbe
   ·rintro rfl;rcases he with z | z;·exact nown c b hc z
    ·rw[hc]at z;cases z;exact hb rfl
end
structure Un(fs ex:List Addr)(H H':Hp)(h h':Heap):Prop where
 keep:∀b o,h.get? b=some o->H b=none->b∉fs->b∉ex->h'.get? b=some o
 slot:∀b o,h.get? b=some o->H b=none->b∈fs->b∉ex->∃sl,h'.get? b=some {o with slots:=sl}
 free:∀b o,h.get? b=some o->H b=none->b∉ex->H' b=none
 there:∀b o,h.get? b=some o->b∉ex->∃o',h'.get? b=some o'
 tups:∀b xs,H b=some (.tup xs)->H' b=some (.tup xs)
 frzs:∀b o u,H b=some (.frz o u)->H' b=some (.frz o u)
 tbls:∀b ps,H b=some (.tbl ps)->∃more,H' b=some (.tbl (ps++more))
section
variable {fs fs' ex ex':List Addr}{H H1 H2:Hp}{h h1 h2 h':Heap}{a x e:Addr}{o:HO}
theorem Un.any(u:Un fs ex H H1 h h1){b:Addr}{ob:Obj}(q:h.get? b=some ob)(n:H b=none)(hx:b∉ex):∃sl,h1.get? b=some {ob with slots:=sl}:=by
 by_cases hb:b∈fs;·exact u.slot b ob q n hb hx
 ·exact⟨ob.slots,u.keep b ob q n hb hx⟩
theorem Un.kept(k:∀b u,h.get? b=some u->h'.get? b=some u):Un fs ex H H h h':= ⟨λb ob q _ _ _=>k b ob q,λb ob q _ _ _=>⟨ob.slots,k b ob q⟩,λ_ _ _ n _=>n,λb ob q _=>⟨ob,k b ob q⟩,λ_ _ q=>q,λ_ _ _ q=>q,λ_ ps q=>⟨#[],by rw[q];simp⟩⟩
theorem Un.refl:Un fs ex H H h h:=Un.kept λ_ _ q=>q
theorem Un.laid(k:∀b u,h.get? b=some u->h'.get? b=some u)(hp:h.objs.size<=a)(hn:H a=none):Un fs ex H (upd H a o) h h' where
 keep:=λb u q _ _ _=>k b u q;slot:=λb u q _ _ _=>⟨u.slots,k b u q⟩;free:=λb u q n _=>by rw[zg (_G (_w (_r q) hp))];exact n
 there:=λb u q _=>⟨u,k b u q⟩;tups:=λb xs q=>by rw[zg (yz q hn)];exact q
 frzs:=λb u xs q=>by rw[zg (yz q hn)];exact q
 tbls:=λb ps q=>⟨#[],by rw[zg (yz q hn),q];simp⟩
theorem Un.write(mu:Mut (H x))(he:e=x\/H e=some (.own x))(k:∀b u,b≠e->h.get? b=some u->h'.get? b=some u)(heo:∃u,h'.get? e=some u):Un fs ex H (upd H x o) h h':=by
 have hx:∀b,H b=none->b≠x:=λb n z=>by subst z;rw[n]at mu;exact mu
 have hb:∀b,H b=none->b≠e:=λb n z=>by
  subst z;rcases he with r | r;·exact hx b n r
  ·rw[n]at r;cases r
 have hm:∀b u,H b=some u->¬ Mut (some u)->b≠x:=λb u q nm z=>by subst z;rw[q]at mu;exact nm mu
 refine⟨λb u q n _ _=>k b u (hb b n) q,λb u q n _ _=>⟨u.slots,k b u (hb b n) q⟩,λb u q n _=>by rw[zg (hx b n)];exact n,λb u q _=>?_, λb xs q=>by rw[zg (hm b _ q λz=>z)];exact q,λb u xs q=>by rw[zg (hm b _ q λz=>z)];exact q,λb ps q=>⟨#[],by rw[zg (hm b _ q λz=>z),q];simp⟩⟩;by_cases hbe:b=e;·subst hbe;exact heo
 ·exact⟨u,k b u hbe q⟩
end
noncomputable def trk(h:Heap)(H:Hp):List Addr:=(List.range h.objs.size).filter λa=>(H a).isSome
noncomputable def z9I(h:Heap)(H:Hp):Heap:=W.hideAll h (trk h H)
theorem z76(h:Heap)(H:Hp):(z9I h H).objs.size=h.objs.size:=W.hideAll_size _ _
theorem z9G{h:Heap}{H:Hp}{b:Addr}{o:Obj}(e:h.get? b=some o)(n:H b=none):(z9I h H).get? b=some o:= W.hideAll_get _ e λhm=>by
  have q:(H b).isSome=true:=(_K.mp hm).2;rw[n]at q;simp at q
theorem zda{h:Heap}{H:Hp}{b:Addr}{o:Obj}(e:(z9I h H).get? b=some o):h.get? b=some o/\H b=none:=by
 have e':h.get? b=some o:=W.of_hideAll (trk h H) e;refine⟨e',?_⟩;cases q:H b with
 | none=>rfl | some x=>
  have hm:b∈trk h H:=_K.mpr ⟨_bD.mpr (_r e'),by simp[q]⟩;have z:(z9I h H).get? b=none:=W.hideAll_none (trk h H) hm;rw[z]at e;cases e
noncomputable def zcI(g h:Heap)(L:Addr):List (Addr×Obj):=(List.range h.objs.size).filterMap λa=>if a=L\/(g.get? a).isSome=true then none else (h.get? a).map λo=>(a,o)
noncomputable def z0h(g h:Heap)(L d:Addr):List (Addr×Obj):=(zcI g h L).filter λp=>decide (p.1≠d)
structure Mod(K:W.Frag)(mg:Str->Option Value)(base:Heap):Prop where
 kin:K.In base
 glob:base.Ns mainGlobals mg
 blt:∃mb,base.Ns builtinsNs mb/\∀x:Str,x≠"__name__"->mb x=bootBuiltins x
 nolimit:base.NoLimit
structure Cx where
 prog:Program
 w:World
 K:W.Frag
 mg:Str->Option Value
 base:Heap
 A:Around
 N:List Str
 s₀:Shared
 H₀:Hp
 env:Env
 outer:List Env
 stack:List Env
 ex:List Addr
 fn:Str->Bool
 calm:Bool
 pn:List (Addr×Obj)
 xe:Value->Shared->Prop
noncomputable def frs(l:List Env):List Addr:=l.filterMap (·.frame)
noncomputable abbrev Cx.fs(X:Cx):List Addr:=frs X.outer
def Vis(sc:Scope)(x:Str):Prop:=sc.names.lookup x=some .local\/sc.names.lookup x=some .cell\/sc.names.lookup x=some .free
def Loc(sc:Scope)(x:Str):Prop:=sc.names.lookup x=some .local\/sc.names.lookup x=some .cell
def zht(env:Env)(h:Heap)(m:Str->Option Value)(x:Str)(u:Value):Prop:= (env.kindOf x=some .local/\m x=some u)\/((env.kindOf x=some .cell\/env.kindOf x=some .free)/\∃c,env.cells.lookup x=some c/\h.IsCell c (some u))
structure Cx.Ok(X:Cx):Prop where
 mod:Mod X.K X.mg X.base
 kind:X.env.scope.kind=.function
 glob:X.env.globals=mainGlobals
 blt:X.env.builtins=builtinsNs
 above:X.s₀.heap.objs.size<=X.env.locals
 inj:∀x y c,X.env.cells.lookup x=some c->X.env.cells.lookup y=some c->x=y
 has:∀x,(X.env.kindOf x=some .cell\/X.env.kindOf x=some .free)->∃c,X.env.cells.lookup x=some c
 cab:∀x c,X.fn x=true->X.env.cells.lookup x=some c->X.s₀.heap.objs.size<=c
 hd:X.calm=true->X.A.handled=none
 frames:X.A.frames=some X.stack
 stk:X.stack=X.outer\/(X.stack=X.env::X.outer/\X.env.frame=some X.env.locals)
 exf:∀b∈X.ex,b≠X.env.locals/\∀x c,X.env.cells.lookup x=some c->c≠b
 bs:∀b o,X.base.get? b=some o->X.s₀.heap.get? b=some o/\X.H₀ b=none
 bsz:X.base.objs.size<=X.s₀.heap.objs.size
 noex:∀b o,X.base.get? b=some o->b∉X.ex
 exfs:∀b∈X.ex,b∉X.fs
 funs:X.s₀.heap.FunFrames X.base X.outer
 frf:∀b∈X.fs,X.H₀ b=none
structure Inv(X:Cx)(pins:List (Addr×Obj))(O:List (Option V))(H:Hp)(s:Shared):Prop where
 ok:X.Ok
 os:s.os=X.s₀.os
 bare:AllBare s.gens
 base:Un X.fs X.ex X.H₀ H X.s₀.heap s.heap
 loc:∃m,s.heap.Ns X.env.locals m/\∀(i:Nat)(x:Str)(v:V),X.N[i]? = some x->O[i]? = some (some v)->Vis X.env.scope x->∃u,yq v u/\zht X.env s.heap m x u
 cell:∀x c,X.env.cells.lookup x=some c->∃v,s.heap.IsCell c v
 free:H X.env.locals=none
 freeC:∀x c,X.env.cells.lookup x=some c->H c=none
 pin:∀p∈X.pn++pins,s.heap.get? p.1=some p.2/\H p.1=none/\p.1≠X.env.locals/\p.1∉X.fs/\∀v,p.2.data≠.cell v
 hok:HOk X.prog X.w H s.heap
 len:O.length=X.N.length
section
variable {X:Cx}{pins:List (Addr×Obj)}{O:List (Option V)}{H H':Hp}{s:Shared}{h':Heap}
theorem Cx.Ok.nofr(ok:X.Ok){b:Addr}{o:Obj}(e:X.base.get? b=some o):b∉X.fs:=λhb=>by
 have:=(ok.funs.mem hb).1;rw[e]at this;cases this
theorem Inv.bs(I:Inv X pins O H s):∀b o,X.base.get? b=some o->s.heap.get? b=some o/\H b=none:=λb o e=> ⟨I.base.keep b o (I.ok.bs b o e).1 (I.ok.bs b o e).2 (I.ok.nofr e) (I.ok.noex b o e),I.base.free b o (I.ok.bs b o e).1 (I.ok.bs b o e).2 (I.ok.noex b o e)⟩
theorem Inv.bk(I:Inv X pins O H s):∀b o,X.base.get? b=some o->s.heap.get? b=some o:=λb o e=>(I.bs b o e).1
theorem Inv.mod(I:Inv X pins O H s):Mod X.K X.mg X.base:=I.ok.mod
theorem Inv.kIn(I:Inv X pins O H s):X.K.In s.heap:=I.ok.mod.kin.keeps I.bk
theorem Inv.fr(I:Inv X pins O H s):∃m,Fr X.base X.env.locals s.heap m:= let ⟨m,hn,_⟩:=I.loc;⟨m,hn,I.bk,_M I.ok.bsz I.ok.above⟩
theorem Inv.lt(I:Inv X pins O H s):X.env.locals<s.heap.objs.size:=let ⟨_,hn,_⟩:=I.loc;hn.lt
theorem Inv.sz(I:Inv X pins O H s):X.s₀.heap.objs.size<=s.heap.objs.size:=_M I.ok.above (_az I.lt)
theorem Inv.nofs(I:Inv X pins O H s){a:Addr}(h:s.heap.objs.size<=a):a∉X.fs:=λhb=>by
 obtain⟨_,o,ho,_⟩:=I.ok.funs.mem hb;exact absurd (_w (_r ho) (_M I.sz h)) (_ax _)
theorem Inv.cne(I:Inv X pins O H s):∀x c,X.env.cells.lookup x=some c->c≠X.env.locals:=λx c e z=>by
 obtain⟨v,o,ho,hd⟩:=I.cell x c e;obtain⟨m,⟨o',es,ep,ho',hd',_⟩,_⟩:=I.loc;rw[z,ho']at ho;cases ho;rw[hd']at hd;cases hd
theorem Inv.funs(I:Inv X pins O H s):s.heap.FunFrames X.base X.outer:=by
 have all:∀(l:List Env),(∀b∈frs l,b∈X.fs)->X.s₀.heap.FunFrames X.base l->s.heap.FunFrames X.base l:=by
  intro l;induction l with
  | nil=>intro _ _;trivial | cons env r ih=>
   intro hs hl;obtain⟨hk,⟨L,o,hf,hn,ho,hd⟩,hr⟩:=hl;have hL:L∈X.fs:=hs L (by unfold frs;rw[_bM,hf];exact _U);obtain⟨sl,e⟩:=I.base.slot L o ho (I.ok.frf L hL) hL λz=>I.ok.exfs L z hL;exact⟨hk,⟨L,_,hf,hn,e,hd⟩,ih (λb hb=>hs b (by unfold frs;rw[_bM,hf];exact _C _ hb)) hr⟩
 exact all X.outer (λ_ hb=>hb) I.ok.funs
theorem Inv.stack(I:Inv X pins O H s):s.heap.FunFrames X.base X.stack:=by
 rcases I.ok.stk with e | ⟨e,hf⟩;·rw[e];exact I.funs
 ·rw[e];obtain⟨m,hn,_⟩:=I.loc;refine .cons (by rw[I.ok.kind];decide) hf hn ?_ I.funs;exact Heap.get?_none_of_le (_M I.ok.bsz I.ok.above)
theorem Inv.stkSub(I:Inv X pins O H s):∀b∈frs X.stack,b∈X.env.locals::X.fs:=λb hb=>by
 rcases I.ok.stk with e | ⟨e,hf⟩;·rw[e]at hb;exact _C _ hb
 ·rw[e]at hb;unfold frs at hb;rw[_bM,hf]at hb;exact hb
theorem Inv.stkFree(I:Inv X pins O H s):∀b∈frs X.stack,H b=none:=λb hb=>by
 rcases _h.mp (I.stkSub b hb) with e | hb;·rw[e];exact I.free
 ·obtain⟨_,o,ho,_⟩:=I.ok.funs.mem hb;exact I.base.free b o ho (I.ok.frf b hb) λz=>I.ok.exfs b z hb
theorem Inv.step{g':Array GenState}{t':Nat}{d':Drawn}{ch:List Addr}(I:Inv X pins O H s) (hch:∀b∈ch,(b∈X.ex\/X.s₀.heap.objs.size<=b)/\b≠X.env.locals/\(∀x c,X.env.cells.lookup x=some c->c≠b)/\∀p∈X.pn++pins,p.1≠b) (keep:∀b o,b≠X.env.locals->b∉X.fs->b∉ch->s.heap.get? b=some o->H b=none->h'.get? b=some o) (slot:∀b o,b≠X.env.locals->b∈X.fs->b∉ch->s.heap.get? b=some o->H b=none->∃sl,h'.get? b=some {o with slots:=sl})(free:∀b o,b∉ch->s.heap.get? b=some o->H b=none->H' b=none) (there:∀b o,b∉ch->s.heap.get? b=some o->∃o',h'.get? b=some o') (tups:∀b xs,H b=some (.tup xs)->H' b=some (.tup xs))(frzs:∀b o u,H b=some (.frz o u)->H' b=some (.frz o u))(tbls:∀b ps,H b=some (.tbl ps)->∃more,H' b=some (.tbl (ps++more))) (ns:∀m,s.heap.Ns X.env.locals m->h'.Ns X.env.locals m)(hok:HOk X.prog X.w H' h')(hg:AllBare g'): Inv X pins O H' {s with heap:=h',gens:=g',drawn:=d',toks:=t'}:=by
 have neL:∀b o,X.s₀.heap.get? b=some o->b≠X.env.locals:=λb o e=>_G (_w (_r e) I.ok.above);have neC:∀b o,X.s₀.heap.get? b=some o->b∉X.ex->b∉ch:=λb o e hx hb=>by
  rcases (hch b hb).1 with z | z;·exact hx z
  ·exact absurd (_w (_r e) z) (_ax _)
 have cellK:∀x c,X.env.cells.lookup x=some c->∀v,s.heap.IsCell c v->h'.IsCell c v:=λx c e v ⟨o,ho,hd⟩=>by
  have nch:c∉ch:=λz=>(hch c z).2.2.1 x c e rfl;by_cases hc:c∈X.fs
  ·obtain⟨sl,q⟩:=slot c o (I.cne x c e) hc nch ho (I.freeC x c e);exact⟨_,q,hd⟩
  ·exact⟨o,keep c o (I.cne x c e) hc nch ho (I.freeC x c e),hd⟩
 refine⟨I.ok,I.os,hg,⟨λb o e n hb hx=>?_,λb o e n hb hx=>?_,λb o e n hx=>?_,λb o e hx=>?_,λb xs e=>tups b xs (I.base.tups b xs e),λb o xs e=>frzs b o xs (I.base.frzs b o xs e),λb ps e=>?_⟩,?_,λx c e=>?_,?_,λx c e=>?_,λp hp=>?_,hok,I.len⟩;·exact keep b o (neL b o e) hb (neC b o e hx) (I.base.keep b o e n hb hx) (I.base.free b o e n hx)
 ·obtain⟨sl,e1⟩:=I.base.slot b o e n hb hx;obtain⟨sl',e2⟩:=slot b _ (neL b o e) hb (neC b o e hx) e1 (I.base.free b o e n hx);exact⟨sl',e2⟩
 ·obtain⟨o',e1⟩:=I.base.there b o e hx;exact free b o' (neC b o e hx) e1 (I.base.free b o e n hx)
 ·obtain⟨o',e1⟩:=I.base.there b o e hx;exact there b o' (neC b o e hx) e1
 ·obtain⟨m1,e1⟩:=I.base.tbls b ps e;obtain⟨m2,e2⟩:=tbls b _ e1;exact⟨m1++m2,by rw[e2,Array.append_assoc]⟩
 ·obtain⟨m,hn,hl⟩:=I.loc;refine⟨m,ns m hn,λi x v e1 e2 e3=>?_⟩;obtain⟨u,r,l⟩:=hl i x v e1 e2 e3;refine⟨u,r,?_⟩;rcases l with l | ⟨k,c,e,z⟩;·exact .inl l
  ·exact .inr ⟨k,c,e,cellK x c e _ z⟩
 ·obtain⟨v,z⟩:=I.cell x c e;exact⟨v,cellK x c e v z⟩
 ·obtain⟨m,⟨o,_,_,ho,_⟩,_⟩:=I.loc;exact free _ o (λz=>(hch _ z).2.1 rfl) ho I.free
 ·obtain⟨v,o,ho,hd⟩:=I.cell x c e;exact free c o (λz=>(hch c z).2.2.1 x c e rfl) ho (I.freeC x c e)
 ·obtain⟨e,n,ne,nf,d⟩:=I.pin p hp;have nch:p.1∉ch:=λz=>(hch p.1 z).2.2.2 p hp rfl;exact⟨keep p.1 p.2 ne nf nch e n,free p.1 p.2 nch e n,ne,nf,d⟩
theorem Inv.un {t':Nat} (I:Inv X pins O H s) (u:Un X.fs [] H H' s.heap h') (hok:HOk X.prog X.w H' h'):Inv X pins O H' {s with heap:=h',toks:=t'}:=by
 obtain⟨m,⟨o,es,ep,ho,r⟩,_⟩:=id I.loc;obtain⟨sl,hL⟩:=u.any ho I.free (by simp);exact I.step (g':=s.gens) (d':=s.drawn) (ch:=[]) (λ_ z=>nomatch z) (λb o _ hb _ e n=>u.keep b o e n hb (by simp)) (λb o _ hb _ e n=>u.slot b o e n hb (by simp)) (λb o _ e n=>u.free b o e n (by simp)) (λb o _ e=>u.there b o e (by simp)) u.tups u.frzs u.tbls (λm' hm=>by
  obtain⟨o',es',ep',ho',r'⟩:=hm;rw[ho]at ho';cases ho';exact⟨_,es',ep',hL,r'⟩) hok I.bare
theorem Inv.call{g':Array GenState}{t':Nat}{d':Drawn}{ch:List Addr}(I:Inv X pins O H s)(u:Un (frs X.stack) ch H H' s.heap h')(hok:HOk X.prog X.w H' h')(hg:AllBare g') (hch:∀b∈ch,(b∈X.ex\/X.s₀.heap.objs.size<=b)/\b≠X.env.locals/\(∀x c,X.env.cells.lookup x=some c->c≠b)/\∀p∈X.pn++pins,p.1≠b): Inv X pins O H' {s with heap:=h',gens:=g',drawn:=d',toks:=t'}:=by
 obtain⟨m,⟨o,es,ep,ho,r⟩,_⟩:=id I.loc;obtain⟨sl,hL⟩:=u.any ho I.free λz=>(hch _ z).2.1 rfl;exact I.step (ch:=ch) hch (λb o hL hb hc e n=>u.keep b o e n (λz=>(_h.mp (I.stkSub b z)).elim hL hb) hc) (λb o _ _ hc e n=>u.any e n hc) (λb o hc e n=>u.free b o e n hc) (λb o hc e=>u.there b o e hc) u.tups u.frzs u.tbls (λm' hm=>by
  obtain⟨o',es',ep',ho',r'⟩:=hm;rw[ho]at ho';cases ho';exact⟨_,es',ep',hL,r'⟩) hok hg
theorem Inv.turned {t':Nat} {it:Addr} (I:Inv X pins O H s) (k:∀b o,b≠it->s.heap.get? b=some o->h'.get? b=some o) (hn:H it=none) (hL:it≠X.env.locals) (h1:it∈X.ex\/X.s₀.heap.objs.size<=it) (h2:∀x c,X.env.cells.lookup x=some c->c≠it) (h3:∀p∈X.pn++pins,p.1≠it):Inv X pins O H {s with heap:=h',toks:=t'}:=by
 have nit:∀b u,H b=some u->b≠it:=λb u e z=>by rw[z,hn]at e;cases e
 refine I.step (g':=s.gens) (d':=s.drawn) (ch:=[it]) (λb hb=>?_) (λb o _ _ hc e _=>k b o (λz=>hc (by simp[z])) e) (λb o _ _ hc e _=>⟨o.slots,k b o (λz=>hc (by simp[z])) e⟩) (λ_ _ _ _ n=>n) (λb o hc e=>⟨o,k b o (λz=>hc (by simp[z])) e⟩) (λ_ _ e=>e) (λ_ _ _ e=>e) (λb ps e=>⟨#[],by rw[e];simp⟩) (λm hm=>?_) (λb u e=>?_) I.bare
 ·have e:b=it:=by simpa using hb
  subst e;exact⟨h1,hL,h2,h3⟩
 ·obtain⟨o,es,ep,ho,r⟩:=hm;exact⟨o,es,ep,k _ o (_a1 hL) ho,r⟩
 ·refine (I.hok b u e).stay (λc v hc q=>k c v ?_ q) (λ_ q=>q) λ_ _ q=>q;rcases hc with z | z;·rw[z];exact nit b u e
  ·exact nit c _ z
theorem Inv.tok (I:Inv X pins O H s) (t:Nat):Inv X pins O H {s with toks:=t}:=I.un (h':=s.heap) (t':=t) Un.refl I.hok
theorem Inv.kept{t':Nat}(I:Inv X pins O H s)(k:∀b u,s.heap.get? b=some u->h'.get? b=some u):Inv X pins O H {s with heap:=h',toks:=t'}:=I.un (Un.kept k) (I.hok.kept k)
theorem Inv.laid {a:Addr} {o:HO} {t':Nat} (I:Inv X pins O H s) (k:∀b u,s.heap.get? b=some u->h'.get? b=some u) (hp:s.heap.objs.size<=a) (new:yN X.prog X.w (upd H a o) h' a o): Inv X pins O (upd H a o) {s with heap:=h',toks:=t'}:=I.un (Un.laid k hp (I.hok.fresh hp)) (I.hok.laid k hp new)
theorem Inv.write {x e:Addr} {o:HO} {t':Nat} (I:Inv X pins O H s) (mu:Mut (H x)) (he:e=x\/H e=some (.own x)) (k:∀b u,b≠e->s.heap.get? b=some u->h'.get? b=some u) (heo:∃u,h'.get? e=some u) (new:yN X.prog X.w (upd H x o) h' x o):Inv X pins O (upd H x o) {s with heap:=h',toks:=t'}:=I.un (Un.write mu he k heo) (I.hok.write mu he k heo new)
theorem Inv.weak{O':List (Option V)}(I:Inv X pins O H s)(hl:O'.length=O.length)(w:∀(i:Nat) v,O'[i]? = some (some v)->O[i]? = some (some v)):Inv X pins O' H s:= ⟨I.ok,I.os,I.bare,I.base,let ⟨m,hn,hl'⟩:=I.loc;⟨m,hn,λi x v e1 e2 e3=>hl' i x v e1 (w i v e2) e3⟩,I.cell,I.free,I.freeC,I.pin,I.hok,hl.trans I.len⟩
theorem Inv.pins_of{pins':List (Addr×Obj)}(I:Inv X pins O H s)(h:∀p∈pins',s.heap.get? p.1=some p.2/\H p.1=none/\p.1≠X.env.locals/\p.1∉X.fs/\∀v,p.2.data≠.cell v):Inv X pins' O H s:= ⟨I.ok,I.os,I.bare,I.base,I.loc,I.cell,I.free,I.freeC,λp hp=>(_E.mp hp).elim (λz=>I.pin p (_aY _ z)) (h p),I.hok,I.len⟩
theorem z5n{N:List Str}(hN:N.Nodup){i j:Nat}{x:Str}(a:N[i]? = some x)(b:N[j]? = some x):i=j:=by
 obtain⟨h1,e1⟩:=_b.mp a;obtain⟨h2,e2⟩:=_b.mp b;exact (_aU hN).mp (e1.trans e2.symm)
theorem jE{M:Model}{A:Around}{E:Value->Shared->Prop}{i:Nat}{x:Str}{v:V}{u:Value}{Q:Unit->Shared->Prop}(I:Inv X pins O H s)(hN:X.N.Nodup)(hi:X.N[i]? = some x)(hx:Loc X.env.scope x)(r:yq v u) (h:∀s',Inv X pins (O.set i (some v)) H s'->(∃a,Heap.SameBut a s.heap s'.heap/\(a=X.env.locals\/X.env.cells.lookup x=some a))->Q () s')(hf:X.fn x=true\/X.env.scope.names.lookup x=some .local:=by first | exact .inl rfl | exact .inr rfl | assumption):wpAny M A (storeName X.env x u) Q E s:=by
 obtain⟨m,hn,hl⟩:=id I.loc;have hcls:(X.env.scope.kind==.class||(X.env.scope.kind==.module&&X.env.locals != X.env.globals))=false:=by rw[I.ok.kind];rfl
 have hiO:i<O.length:=by rw[I.len];exact (_b.mp hi).1
 have cne:=I.cne;have tracked:∀{a:Addr}{h':Heap},(∃o,s.heap.get? a=some o/\H a=none)->Heap.SameBut a s.heap h'->HOk X.prog X.w H h':=λ{a h'} ha hs b ob e=>by
  obtain⟨_,_,hfree⟩:=ha;refine (I.hok b ob e).stay (λc w' hc q=>(hs.2 c ?_).trans q) (λ_ q=>q) λ_ _ q=>q;rintro rfl;rcases hc with rfl | hc;·rw[hfree]at e;cases e
  ·rw[hfree]at hc;cases hc
 rcases hx with hk | hk
 ·refine wpAny_storeName_local hk hn (λh' hn' hs=>?_) hcls;obtain⟨oL,_,_,hoL,_⟩:=id hn;refine h _ ⟨I.ok,I.os,I.bare,⟨λb o e n hb hx=>?_,λb o e n hb hx=>?_,I.base.free,λb o e hx=>?_,I.base.tups,I.base.frzs,I.base.tbls⟩,⟨_,hn',λj y v' e1 e2 e3=>?_⟩,λy c e=>?_,I.free,I.freeC,λp hp=>?_,tracked ⟨oL,hoL,I.free⟩ hs,by simpa using I.len⟩ ⟨_,hs,.inl rfl⟩;·exact (hs.2 b (_G (_w (_r e) I.ok.above))).trans (I.base.keep b o e n hb hx)
  ·obtain⟨sl,e1⟩:=I.base.slot b o e n hb hx;exact⟨sl,(hs.2 b (_G (_w (_r e) I.ok.above))).trans e1⟩
  ·obtain⟨o',e1⟩:=I.base.there b o e hx;exact⟨o',(hs.2 b (_G (_w (_r e) I.ok.above))).trans e1⟩
  ·by_cases hj:j=i
   ·subst hj;rw[hi]at e1;cases e1;rw[_P hiO]at e2;cases e2;exact⟨u,r,.inl ⟨hk,by simp⟩⟩
   ·rw[_I (_a1 hj)]at e2;obtain⟨u',r',q⟩:=hl j y v' e1 e2 e3;refine⟨u',r',?_⟩;rcases q with⟨k,e⟩ | ⟨k,c,e,z⟩
    ·refine .inl ⟨k,?_⟩;have:y≠x:=λe=>hj (z5n hN e1 (e ▸ hi));simp[this,e]
    ·exact .inr ⟨k,c,e,z.sameBut hs (cne y c e)⟩
  ·obtain⟨w',z⟩:=I.cell y c e;exact⟨w',z.sameBut hs (cne y c e)⟩
  ·obtain⟨e,n,ne,nf,d⟩:=I.pin p hp;exact⟨(hs.2 p.1 ne).trans e,n,ne,nf,d⟩
 ·have hfn:X.fn x=true:=by
   rcases hf with z | z;·exact z
   ·rw[z]at hk;cases hk
  obtain⟨c,hc⟩:=I.ok.has x (.inl hk);obtain⟨w',z⟩:=I.cell x c hc;refine wpAny_storeName_cell I.ok.kind hk hc z (λh' hc' hs=>?_);obtain⟨oc,hoc,hocd⟩:=id z;refine h {s with heap:=h'} ⟨I.ok,I.os,I.bare,⟨λb o e n hb hx=>?_,λb o e n hb hx=>?_,I.base.free,λb o e hx=>?_,I.base.tups,I.base.frzs,I.base.tbls⟩,⟨m,hn.sameBut hs (_a1 (cne x c hc)),λj y v' e1 e2 e3=>?_⟩,λy c' e=>?_,I.free,I.freeC,λp hp=>?_,tracked ⟨oc,hoc,I.freeC x c hc⟩ hs,by simpa using I.len⟩ ⟨c,hs,.inr hc⟩;·exact (hs.2 b (_G (_w (_r e) (I.ok.cab x c hfn hc)))).trans (I.base.keep b o e n hb hx)
  ·obtain⟨sl,e1⟩:=I.base.slot b o e n hb hx;exact⟨sl,(hs.2 b (_G (_w (_r e) (I.ok.cab x c hfn hc)))).trans e1⟩
  ·obtain⟨o',e1⟩:=I.base.there b o e hx;exact⟨o',(hs.2 b (_G (_w (_r e) (I.ok.cab x c hfn hc)))).trans e1⟩
  ·by_cases hj:j=i
   ·subst hj;rw[hi]at e1;cases e1;rw[_P hiO]at e2;cases e2;exact⟨u,r,.inr ⟨.inl hk,c,hc,hc'⟩⟩
   ·rw[_I (_a1 hj)]at e2;obtain⟨u',r',q⟩:=hl j y v' e1 e2 e3;refine⟨u',r',?_⟩;rcases q with q | ⟨k,c',e,z'⟩;·exact .inl q
    ·refine .inr ⟨k,c',e,z'.sameBut hs ?_⟩;rintro rfl;exact hj (z5n hN e1 (I.ok.inj _ _ _ e hc ▸ hi))
  ·by_cases hcc:c'=c;·subst hcc;exact⟨_,hc'⟩
   ·obtain⟨w2,z2⟩:=I.cell y c' e;exact⟨w2,z2.sameBut hs hcc⟩
  ·obtain⟨e,n,ne,nf,d⟩:=I.pin p hp;refine⟨(hs.2 p.1 ?_).trans e,n,ne,nf,d⟩;intro q;rw[q,hoc]at e;have q':oc=p.2:=_v e;exact d w' (by rw[<- q'];exact hocd)
theorem jC{M:Model}{A:Around}{E:Value->Shared->Prop}{i:Nat}{x:Str}{v:V}{u:Value}{Q:Unit->Shared->Prop}(I:Inv X pins O H s)(hN:X.N.Nodup)(hi:X.N[i]? = some x)(hx:Loc X.env.scope x)(r:yq v u) (h:∀s',Inv X pins (O.set i (some v)) H s'->Q () s')(hf:X.fn x=true\/X.env.scope.names.lookup x=some .local:=by first | exact .inl rfl | exact .inr rfl | assumption):wpAny M A (storeName X.env x u) Q E s:= jE I hN hi hx r (λs' I' _=>h s' I') hf
theorem Inv.call' {s':Shared} {ch:List Addr} (I:Inv X pins O H s) (ho:s'.os=s.os) (u:Un (frs X.stack) ch H H' s.heap s'.heap) (hok:HOk X.prog X.w H' s'.heap) (hg:AllBare s'.gens) (hch:∀b∈ch,(b∈X.ex\/X.s₀.heap.objs.size<=b)/\b≠X.env.locals/\(∀x c,X.env.cells.lookup x=some c->c≠b)/\∀p∈X.pn++pins,p.1≠b):Inv X pins O H' s':=by
 obtain⟨h',g',d',t',o'⟩:=s';have e:o'=s.os:=ho;subst e;exact I.call (g':=g') (t':=t') (d':=d') u hok hg hch
end
abbrev XK:=Value->Option Addr->Hp->Prop
abbrev St:=List (Option V)
abbrev VK:=V->Hp->Prop
abbrev TE:=St->Hp->VK->Prop
abbrev TT:=St->Hp->(Bool->Hp->Prop)->Prop
abbrev TA:=St->Hp->(List V->Hp->Prop)->Prop
structure z9S where
 nx:St->Hp->Prop
 rt:VK
 bk:St->Hp->Prop:=λ_ _=>False
 ct:St->Hp->Prop:=λ_ _=>False
abbrev TS:=z9S->St->Hp->Prop
def EP(X:Cx)(pins:List (Addr×Obj))(O:St)(Q:VK)(u:Value)(s':Shared):Prop:=∃v H',Inv X pins O H' s'/\yq v u/\Q v H'
def TP(X:Cx)(pins:List (Addr×Obj))(O:St)(Q:Bool->Hp->Prop)(b:Bool)(s':Shared):Prop:=∃H',Inv X pins O H' s'/\Q b H'
def AP(X:Cx)(pins:List (Addr×Obj))(O:St)(Q:List V->Hp->Prop)(us:List Value)(s':Shared):Prop:=∃vs H',Inv X pins O H' s'/\yF vs us/\Q vs H'
def SP(X:Cx)(pins:List (Addr×Obj))(D:z9S)(f:Flow)(s':Shared):Prop:= match f with
 | .next=>∃O' H',Inv X pins O' H' s'/\D.nx O' H' | .brk=>∃O' H',Inv X pins O' H' s'/\D.bk O' H' | .cont=>∃O' H',Inv X pins O' H' s'/\D.ct O' H' | .ret u=>∃v O' H',Inv X pins O' H' s'/\yq v u/\D.rt v H'
def PE(X:Cx)(e:Expr)(t:TE):Prop:= ∀(pins:List (Addr×Obj))(s:Shared)(O:St)(H:Hp)(Q:VK),Inv X pins O H s->t O H Q->wpAny (model X.prog X.w) X.A (eval e X.env) (EP X pins O Q) X.xe s
def PT(X:Cx)(e:Expr)(t:TT):Prop:= ∀(pins:List (Addr×Obj))(s:Shared)(O:St)(H:Hp)(Q:Bool->Hp->Prop),Inv X pins O H s->t O H Q->wpAny (model X.prog X.w) X.A (isTrue e X.env (eval e X.env)) (TP X pins O Q) X.xe s
def PW(X:Cx)(e:Expr)(t:TT):Prop:= ∀(whole:Sem Value)(pins:List (Addr×Obj))(s:Shared)(O:St)(H:Hp)(Q:Bool->Hp->Prop),Inv X pins O H s->t O H Q->wpAny (model X.prog X.w) X.A (isTrue e X.env whole) (TP X pins O Q) X.xe s
theorem PW.pt{X:Cx}{e:Expr}{t:TT}(h:PW X e t):PT X e t:=h _
def PA(X:Cx)(es:List Expr)(t:TA):Prop:= ∀(pos:Pos)(pins:List (Addr×Obj))(s:Shared)(O:St)(H:Hp)(Q:List V->Hp->Prop),Inv X pins O H s->t O H Q->wpAny (model X.prog X.w) X.A (spliced (backTo pos (starEach es X.env))) (AP X pins O Q) X.xe s
def PS(X:Cx)(st:Stmt)(t:TS):Prop:= ∀(pins:List (Addr×Obj))(s:Shared)(O:St)(H:Hp)(D:z9S),Inv X pins O H s->t D O H->wpAny (model X.prog X.w) X.A (exec st X.env) (SP X pins D) X.xe s
def PSs(X:Cx)(st:List Stmt)(t:TS):Prop:= ∀(pins:List (Addr×Obj))(s:Shared)(O:St)(H:Hp)(D:z9S),Inv X pins O H s->t D O H->wpAny (model X.prog X.w) X.A (execs st X.env) (SP X pins D) X.xe s
theorem thn{α:Type}{t:Sem α}{Q Q':α->Shared->Prop}{M:Model}{A:Around}{E:Value->Shared->Prop}{s:Shared}(h:wpAny M A t Q E s)(hQ:∀a s,Q a s->Q' a s):wpAny M A t Q' E s:=_z h hQ λ_ _ x=>x
section
variable {X:Cx}
theorem bin{a b:Expr}{ta tb:TE}(ha:PE X a ta)(hb:PE X b tb){pins:List (Addr×Obj)}{s:Shared}{O:St}{H:Hp}{R:V->V->Hp->Prop}(I:Inv X pins O H s)(h:ta O H λx H1=>tb O H1 λy H2=>R x y H2) {α:Type}{Q:α->Shared->Prop}{f:Value->Value->Sem α} (hf:∀v u s2 x y H2,Inv X pins O H2 s2->yq x v->yq y u->R x y H2->wpAny (model X.prog X.w) X.A (f v u) Q X.xe s2): wpAny (model X.prog X.w) X.A (eval a X.env) (λv s₁=>wpAny (model X.prog X.w) X.A (eval b X.env) (λu s₂=>wpAny (model X.prog X.w) X.A (f v u) Q X.xe s₂) X.xe s₁) X.xe s:=by
 refine thn (ha pins s O H _ I h) λv s1 ⟨x,H1,I1,r1,q1⟩=>?_;refine thn (hb pins s1 O H1 _ I1 q1) λu s2 ⟨y,H2,I2,r2,q2⟩=>?_;exact hf v u s2 x y H2 I2 r1 r2 q2
def z73(i:Nat):TE:=λO H Q=>∃v,O[i]? = some (some v)/\Q v H
def tC(v:V):TE:=λ_ H Q=>Q v H
theorem kG{i:Nat}{x:Str}{pos:Pos}(hN:X.N[i]? = some x)(hv:Vis X.env.scope x)(hd:(x==("__debug__":Str))=false:=by decide)(hcd:(x==("__classdict__":Str))=false:=by decide):PE X (.Name x pos) (z73 i):=by
 intro pins s O H Q I h;obtain⟨v,e,h⟩:=h;obtain⟨m,hn,hl⟩:=I.loc;obtain⟨u,r,l⟩:=hl i x v hN e hv;have fin:EP X pins O Q u s:=⟨v,H,I,r,h⟩;rcases l with⟨hk,hm⟩ | ⟨hk,c,hc,hcell⟩;·exact wpAny_Name (wpAny_loadName_local I.ok.kind hk hn hm fin) hd
 ·rcases hk with hk | hk;·exact wpAny_Name (wpAny_loadName_cell I.ok.kind hk hc hcell fin) hd
  ·exact wpAny_Name (wpAny_loadName_free I.ok.kind hk hc hcell fin hcd) hd
theorem zbo{i j pos}:PE X (.Constant (.int i) j pos) (tC (.int i)):=λ_ _ _ H _ I h=>wpAny_Constant_int ⟨.int i,H,I.tok _,⟨_,rfl⟩,h⟩
theorem zgj{b j pos}:PE X (.Constant (.bool b) j pos) (tC (.bl b)):=λ_ _ _ H _ I h=>Constant_bool ⟨.bl b,H,I,rfl,h⟩
theorem zeE{j pos}:PE X (.Constant .none j pos) (tC .non):=λ_ _ _ H _ I h=>Constant_none ⟨.non,H,I,rfl,h⟩
theorem zer{x j pos}:PE X (.Constant (.str x) j pos) (tC (.str x)):=λ_ _ _ H _ I h=>Calls.Constant_str ⟨.str x,H,I.tok _,⟨_,rfl⟩,h⟩
def Gl(X:Cx)(x:Str):Prop:=X.env.kindOf x=some .globalImplicit
theorem z8Y{E:Value->Shared->Prop}{pins:List (Addr×Obj)}{s:Shared}{O:St}{H:Hp}{x:Str}{u:Value}{pos:Pos}{Q:Value->Shared->Prop}(I:Inv X pins O H s)(hg:Gl X x)(hm:X.mg x=some u)(h:Q u s) (hd:(x==("__debug__":Str))=false:=by decide):wpAny (model X.prog X.w) X.A (eval (.Name x pos) X.env) Q E s:= Calls.Name_function_global I.ok.kind hg (Calls.loadGlobal_global (by rw[I.ok.glob];exact I.mod.glob.keeps I.bk) hm h) hd
theorem z18{E:Value->Shared->Prop}{pins:List (Addr×Obj)}{s:Shared}{O:St}{H:Hp}{x:Str}{u:Value}{pos:Pos}{Q:Value->Shared->Prop}(I:Inv X pins O H s)(hg:Gl X x)(hm:X.mg x=none)(hv:bootBuiltins x=some u)(h:Q u s) (hn:x≠"__name__":=by decide)(hd:(x==("__debug__":Str))=false:=by decide):wpAny (model X.prog X.w) X.A (eval (.Name x pos) X.env) Q E s:=by
 obtain⟨mb,h1,h2⟩:=I.mod.blt;exact Calls.Name_function_global I.ok.kind hg (Calls.loadGlobal_builtin (by rw[I.ok.glob];exact I.mod.glob.keeps I.bk) hm (by rw[I.ok.blt];exact h1.keeps I.bk) ((h2 x hn).trans hv) h) hd
theorem zcE{x:Str}{v:V}{u:Value}{pos:Pos}(hg:Gl X x)(hm:X.mg x=some u)(r:yq v u)(hd:(x==("__debug__":Str))=false:=by decide):PE X (.Name x pos) (tC v):= λ_ _ _ H _ I h=>z8Y I hg hm ⟨v,H,I,r,h⟩ hd
theorem zca{x:Str}{v:V}{u:Value}{pos:Pos}(hg:Gl X x)(hm:X.mg x=none)(hv:bootBuiltins x=some u)(r:yq v u)(hn:x≠"__name__":=by decide)(hd:(x==("__debug__":Str))=false:=by decide):PE X (.Name x pos) (tC v):= λ_ _ _ H _ I h=>z18 I hg hm hv ⟨v,H,I,r,h⟩ hn hd
variable {a b:Expr}{ta tb:TE}{pos:Pos}
def PC(X:Cx)(op:CmpOp)(a b:Expr)(t:TE):Prop:= ∀(pins:List (Addr×Obj))(s:Shared)(O:St)(H:Hp)(Q:VK),Inv X pins O H s->t O H Q-> wpAny (model X.prog X.w) X.A (eval a X.env) (λv s₁=>wpAny (model X.prog X.w) X.A (eval b X.env) (λu s₂=>wpAny (model X.prog X.w) X.A (compareOp op v u) (EP X pins O Q) X.xe s₂) X.xe s₁) X.xe s
def tB(t:TE):TT:=λO H Q=>t O H λx H1=>∃c,x=.bl c/\Q c H1
theorem zh7{op:CmpOp}{t:TE}(h:PC X op a b t)(h1:behindInMarks op b=false:=by first | exact nobehind _ (by decide) (by decide) | rfl):PT X (.Compare a [op] [b] pos) (tB t):=by
 intro pins s O H Q I hw;refine wpAny_isTrue_Compare1 (thn (h pins s O H _ I hw) λv s1 h1=>thn h1 λu s2 h2=>thn h2 λc s3 ⟨x,H1,I1,r1,q1⟩=>?_) h1;obtain⟨d,rfl,q⟩:=q1;cases r1;exact _ak ⟨H1,I1,q⟩
theorem zeT{e:Expr}{t:TE}(h:PE X e t)(he:∀whole,isTrue e X.env whole=(do let v <- whole;standAt e.pos;holding [v] (truthy v)):=by intro _;rfl):PT X e (tB t):=by
 intro pins s O H Q I hw;refine isTrue_plain (thn (h pins s O H _ I hw) λv s1 ⟨x,H1,I1,r1,q1⟩=>?_) (he _);obtain⟨d,rfl,q⟩:=q1;cases r1;exact _ak ⟨H1,I1,q⟩
variable {tA tB':TT}{z0h:List Expr}
def tOr(t u:TT):TT:=λO H Q=>t O H λc H1=>if c=true then Q true H1 else u O H1 Q
def zhN(t:TT):TT:=λO H Q=>t O H λc H1=>Q (!c) H1
theorem zel(ha:PT X a tA):PW X (.BoolOp .Or [a] pos) tA:=by
 intro wh pins s O H Q I h;refine isTrue_or (thn (ha pins s O H Q I h) λc s1 e=>?_);cases c with
 | false=>exact isTrue_or_nil e | true=>exact e
theorem zgl(ha:PT X a tA)(hb:PW X (.BoolOp .Or (b::z0h) pos) tB'):PW X (.BoolOp .Or (a::b::z0h) pos) (tOr tA tB'):=by
 intro wh pins s O H Q I h;refine isTrue_or (thn (ha pins s O H _ I h) λc s1 ⟨H1,I1,q1⟩=>?_);cases c with
 | true=>exact⟨H1,I1,q1⟩ | false=>exact hb wh pins s1 O H1 Q I1 q1
theorem zdO(ha:PT X a tA):PT X (.UnaryOp .Not a pos) (zhN tA):=by
 intro pins s O H Q I h;exact isTrue_not (ha pins s O H (λc H1=>Q (!c) H1) I h)
def zfR(ta tb:TE):TE:=λO H Q=>ta O H λx H1=>∃c,x=.bl c/\if c=true then tb O H1 Q else Q (.bl false) H1
def zgb(ta:TE):TE:=λO H Q=>ta O H λx H1=>∃c,x=.bl c/\Q (.bl (!c)) H1
theorem ze8{op}{t:TE}(h:PE X a t):PE X (.BoolOp op [a] pos) t:=λpins s O H Q I hw=>BoolOp_one (h pins s O H Q I hw)
theorem zdr(ha:PE X a ta)(hb:PE X (.BoolOp .And (b::z0h) pos) tb):PE X (.BoolOp .And (a::b::z0h) pos) (zfR ta tb):=by
 intro pins s O H Q I h;refine BoolOp_and (thn (ha pins s O H _ I h) λv s1 ⟨x,H1,I1,r1,q1⟩=>?_);obtain⟨c,rfl,q1⟩:=q1;cases r1;refine _ak ?_;cases c with
 | true=>exact hb pins s1 O H1 Q I1 q1 | false=>exact⟨.bl false,H1,I1,rfl,q1⟩
theorem zf0(ha:PE X a ta):PE X (.UnaryOp .Not a pos) (zgb ta):=by
 intro pins s O H Q I h;refine UnaryOp_ (thn (ha pins s O H _ I h) λv s1 ⟨x,H1,I1,r1,q1⟩=>?_);obtain⟨c,rfl,q1⟩:=q1;cases r1;exact not_of (_ak ⟨.bl (!c),H1,I1,rfl,q1⟩)
end
def SqL(K:W.Frag)(H:Hp)(a:Addr)(xs:List V):Prop:= Rd H a (.lst xs)\/ ∃(o:Obj)(its:Array Value)(n:Nat),K.lookup a=some o/\o.cls=.type "list"/\o.dict=none/\o.data=.seq its n/\its.size<=sizeLine/\yF xs its.toList
def SqT(K:W.Frag)(H:Hp)(a:Addr)(xs:List V):Prop:= Rd H a (.tup xs)\/ ∃(o:Obj)(its:Array Value)(n:Nat),K.lookup a=some o/\o.cls=.type "tuple"/\o.data=.seq its n/\its.size<=sizeLine/\yF xs its.toList
noncomputable def zhT:Value->Option V
 | .none=>some .non | .bool b=>some (.bl b) | .int i _=>some (.int i) | .str x _=>some (.str x) | .bytes b _=>some (.byt b) | .float b _=>some (.flt b) | .ref a=>some (.ref a) | .type n=>some (.ty n) | _=>none
theorem yq.abs{x:V}{u:Value}(r:yq x u):zhT u=some x:=by cases x with
 | non=>cases r;rfl | bl _=>cases r;rfl | int _=>obtain⟨t,rfl⟩:=r;rfl | str _=>obtain⟨t,rfl⟩:=r;rfl | byt _=>obtain⟨t,rfl⟩:=r;rfl | flt _=>obtain⟨t,rfl⟩:=r;rfl | ref _=>cases r;rfl | ty _=>cases r;rfl
theorem yq.inj{x y:V}{u:Value}(r:yq x u)(q:yq y u):x=y:=_v (r.abs.symm.trans q.abs)
theorem yF.inj:∀{xs ys:List V}{us:List Value},yF xs us->yF ys us->xs=ys
 | _,_,_,.nil,.nil=>rfl | _,_,_,.cons r t,.cons r' t'=>by rw[r.inj r',yF.inj t t']
section
variable {X:Cx}{pins:List (Addr×Obj)}{O:St}{H:Hp}{s:Shared}{a:Addr}{xs ys:List V}
theorem Inv.list(I:Inv X pins O H s)(h:SqL X.K H a xs):∃its:List Value,yF xs its/\PlainL s.heap a its.toArray/\xs.length<=sizeLine:=by
 rcases h with h | ⟨o,its,n,hk,hc,hd,hs,hz,r⟩
 ·obtain⟨z,its,n,r,e⟩:=h.ok I.hok;exact⟨its,r,⟨_,n,e,rfl,rfl,rfl⟩,z⟩
 ·refine⟨its.toList,r,⟨o,n,I.kIn a o hk,hc,hd,by simpa using hs⟩,?_⟩;have e:=r.length;simp only[_V]at e;omega
theorem Inv.tuple(I:Inv X pins O H s)(h:SqT X.K H a xs):∃its:List Value,yF xs its/\IsTup s.heap a its.toArray/\xs.length<=sizeLine:=by
 rcases h with h | ⟨o,its,n,hk,hc,hs,hz,r⟩
 ·obtain⟨z,its,r,p⟩:=h.ok I.hok;exact⟨its,r,p.tup,z⟩
 ·refine⟨its.toList,r,⟨o,I.kIn a o hk,hc,n,by simpa using hs⟩,?_⟩;have e:=r.length;simp only[_V]at e;omega
theorem Inv.list_inj(I:Inv X pins O H s)(h:SqL X.K H a xs)(h':SqL X.K H a ys):xs=ys:=by
 obtain⟨its,r,⟨o,n,e,_,_,d⟩,_⟩:=I.list h;obtain⟨its',r',⟨o',n',e',_,_,d'⟩,_⟩:=I.list h';rw[e]at e';cases e';rw[d]at d';injection d' with d1 _;have:its=its':=by simpa using _ba Array.toList d1
 subst this;exact r.inj r'
theorem Inv.tuple_inj(I:Inv X pins O H s)(h:SqT X.K H a xs)(h':SqT X.K H a ys):xs=ys:=by
 obtain⟨its,r,⟨o,e,_,n,d⟩,_⟩:=I.tuple h;obtain⟨its',r',⟨o',e',_,n',d'⟩,_⟩:=I.tuple h';rw[e]at e';cases e';rw[d]at d';injection d' with d1 _;have:its=its':=by simpa using _ba Array.toList d1
 subst this;exact r.inj r'
end
noncomputable abbrev Cx.wish(X:Cx)(E:Value->Shared->Prop):Cx:={X with xe:=E}
noncomputable abbrev Cx.nox(X:Cx):Cx:=X.wish λ_ _=>False
theorem Cx.Ok.wish{X:Cx}(ok:X.Ok)(E:Value->Shared->Prop):(X.wish E).Ok:= ⟨ok.mod,ok.kind,ok.glob,ok.blt,ok.above,ok.inj,ok.has,ok.cab,ok.hd,ok.frames,ok.stk,ok.exf,ok.bs,ok.bsz,ok.noex,ok.exfs,ok.funs,ok.frf⟩
theorem Cx.Ok.unwish{X:Cx}{E:Value->Shared->Prop}(ok:(X.wish E).Ok):X.Ok:= ⟨ok.mod,ok.kind,ok.glob,ok.blt,ok.above,ok.inj,ok.has,ok.cab,ok.hd,ok.frames,ok.stk,ok.exf,ok.bs,ok.bsz,ok.noex,ok.exfs,ok.funs,ok.frf⟩
section
variable {X:Cx}{pins:List (Addr×Obj)}{O:St}{H:Hp}{s:Shared}{E:Value->Shared->Prop}
theorem Inv.wish(I:Inv X pins O H s)(E:Value->Shared->Prop):Inv (X.wish E) pins O H s:=⟨I.ok.wish E,I.os,I.bare,I.base,I.loc,I.cell,I.free,I.freeC,I.pin,I.hok,I.len⟩
theorem Inv.unwish(I:Inv (X.wish E) pins O H s):Inv X pins O H s:=⟨I.ok.unwish,I.os,I.bare,I.base,I.loc,I.cell,I.free,I.freeC,I.pin,I.hok,I.len⟩
theorem SP.unwish{D:z9S}{f:Flow}{s':Shared}(h:SP (X.wish E) pins D f s'):SP X pins D f s':=by cases f with
 | next=>obtain⟨O',H',I,q⟩:=h;exact⟨O',H',I.unwish,q⟩ | brk=>obtain⟨O',H',I,q⟩:=h;exact⟨O',H',I.unwish,q⟩ | cont=>obtain⟨O',H',I,q⟩:=h;exact⟨O',H',I.unwish,q⟩ | ret u=>obtain⟨v,O',H',I,r,q⟩:=h;exact⟨v,O',H',I.unwish,r,q⟩
theorem PSs.nox{st:List Stmt}{t:TS}(h:PSs X.nox st t):PSs X st t:=λpins s O H D I hw=> _z (h pins s O H D (I.wish _) hw) (λ_ _ q=>q.unwish) λ_ _ z=>False.elim z
end
section
variable {X:Cx}{st:Stmt}{z0h:List Stmt}{t u:TS}{e:Expr}{te:TE}{pos:Pos}
def zg1:TS:=λD O H=>D.nx O H
def zgQ(t u:TS):TS:=λD O H=>t {D with nx:=u D} O H
theorem zbO:PSs X [] zg1:=λ_ _ O H _ I h=>wpAny_execs_nil ⟨O,H,I,h⟩
theorem z9h(h1:PS X st t)(h2:PSs X z0h u):PSs X (st::z0h) (zgQ t u):=by
 intro pins s O H D I h;refine wpAny_execs_cons (thn (h1 pins s O H {D with nx:=u D} I h) λf s1 q=>?_);cases f with
 | next=>
  obtain⟨O',H',I',q⟩:=q;exact h2 pins s1 O' H' D I' q | ret v=>exact q | brk=>exact q | cont=>exact q
theorem zbN(h1:PS X st t):PSs X [st] t:=by
 intro pins s O H D I h;refine wpAny_execs_cons (thn (h1 pins s O H D I h) λf s1 q=>?_);cases f with
 | next=>exact wpAny_execs_nil q | ret v=>exact q | brk=>exact q | cont=>exact q
theorem Inv.quiet{pins:List (Addr×Obj)}{O:St}{H:Hp}{s:Shared}(I:Inv X pins O H s):interactive X.env=false:=by simp[interactive,I.ok.kind]
def zge(te:TE):TS:=λD O H=>te O H λ_ H1=>D.nx O H1
theorem zcw(he:PE X e te)(hs:swapsWith e none pos.line X.env=pure false:=by rfl):PS X (.Expr e pos) (zge te):=by
 intro pins s O H D I h;exact wpAny_Expr_any (thn (he pins s O H _ I h) λv s1 ⟨x,H1,I1,r1,q1⟩=>⟨O,H1,I1,q1⟩) I.quiet hs
def zhu(te:TE):TS:=λD O H=>te O H D.rt
theorem zdQ(he:PE X e te):PS X (.Return (some e) pos) (zhu te):=by
 intro pins s O H D I h;exact wpAny_Return_some (thn (he pins s O H _ I h) λv s1 ⟨x,H1,I1,r1,q1⟩=>⟨x,O,H1,I1,r1,q1⟩)
def zhP(c:TT)(t u:TS):TS:=λD O H=>c O H λb H1=>if b=true then t D O H1 else u D O H1
theorem zgD{c:Expr}{a b:List Stmt}{tc:TT}(hc:PT X c tc)(ha:PSs X a t)(hb:PSs X b u):PS X (.If c a b pos) (zhP tc t u):=by
 intro pins s O H D I h;refine wpAny_If (thn (hc pins s O H _ I h) λd s1 ⟨H1,I1,q1⟩=>?_);cases d with
 | true=>exact ha pins s1 O H1 D I1 q1 | false=>exact hb pins s1 O H1 D I1 q1
def zdB:TS:=λ_ _ _=>False
theorem z9p:PS X st zdB:=λ_ _ _ _ _ _ h=>h.elim
end
abbrev TG:=V->St->Hp->(St->Hp->Prop)->Prop
abbrev TGs:=List V->St->Hp->(St->Hp->Prop)->Prop
def PG(X:Cx)(target:Expr)(t:TG):Prop:= ∀(pins:List (Addr×Obj))(s:Shared)(O:St)(H:Hp)(v:V)(u:Value)(Q:St->Hp->Prop),Inv X pins O H s->yq v u->t v O H Q-> wpAny (model X.prog X.w) X.A (assign target X.env u) (λ_ s'=>∃O' H',Inv X pins O' H' s'/\Q O' H') X.xe s
def PGs(X:Cx)(ts:List Expr)(t:TGs):Prop:= ∀(pins:List (Addr×Obj))(s:Shared)(O:St)(H:Hp)(vs:List V)(us:List Value)(Q:St->Hp->Prop),Inv X pins O H s->yF vs us->t vs O H Q-> wpAny (model X.prog X.w) X.A (assignInOrder ((assignEach ts X.env).map (·.2)) us) (λ_ s'=>∃O' H',Inv X pins O' H' s'/\Q O' H') X.xe s
abbrev zgo:=V->V->V->Hp->(Hp->Prop)->Prop
def zh3(X:Cx)(t:zgo):Prop:= ∀(pins:List (Addr×Obj))(s:Shared)(O:St)(H:Hp)(o i v:V)(ov iv u:Value)(Q:Hp->Prop),Inv X pins O H s->yq o ov->yq i iv->yq v u->t o i v H Q-> wpAny (model X.prog X.w) X.A (setItem ov iv u) (λ_ s'=>∃H',Inv X pins O H' s'/\Q H') X.xe s
abbrev TIp:=V->V->Hp->VK->Prop
def PIp(X:Cx)(op:Operator)(t:TIp):Prop:= ∀(pins:List (Addr×Obj))(s:Shared)(O:St)(H:Hp)(x y:V)(v u:Value)(Q:VK),Inv X pins O H s->yq x v->yq y u->t x y H Q-> wpAny (model X.prog X.w) X.A (inplaceOp op v u) (EP X pins O Q) X.xe s
section
variable {X:Cx}{pos:Pos}
def kY(i:Nat):TG:=λv O H Q=>Q (O.set i (some v)) H
theorem yE{i:Nat}{x:Str}(hN:X.N.Nodup)(hi:X.N[i]? = some x)(hx:Loc X.env.scope x)(hf:X.fn x=true\/X.env.scope.names.lookup x=some .local:=by first | exact .inl rfl | exact .inr rfl | assumption):PG X (.Name x pos) (kY i):=by
 intro pins s O H v u Q I r h;exact _b1 (jC I hN hi hx r (λs' I'=>⟨_,H,I',h⟩) hf)
def zgR:TGs:=λvs O H Q=>vs=[]/\Q O H
def zcl(t:TG)(u:TGs):TGs:=λvs O H Q=>∃v r,vs=v::r/\t v O H λO' H'=>u r O' H' Q
theorem z8A:PGs X [] zgR:=by
 intro pins s O H vs us Q I r h;obtain⟨e,h⟩:=h;subst e;cases r;exact assignInOrder_nil ⟨O,H,I,h⟩
theorem z0q{e:Expr}{es:List Expr}{t:TG}{u:TGs}(h1:PG X e t)(h2:PGs X es u) (hs:(assignEach (e::es) X.env).map (·.2)=assign e X.env::(assignEach es X.env).map (·.2):=by rfl):PGs X (e::es) (zcl t u):=by
 intro pins s O H vs us Q I r h;obtain⟨v,vr,e1,h⟩:=h;subst e1;cases r with | cons r rr=>
  rw[hs];refine _cU (thn (h1 pins s O H _ _ _ I r h) λ_ s1 ⟨O1,H1,I1,q1⟩=>?_);exact h2 pins s1 O1 H1 _ _ Q I1 rr q1
def zh4(K:W.Frag)(n:Nat)(t:TGs):TG:=λv O H Q=>∃a xs,v=.ref a/\SqT K H a xs/\xs.length=n/\t xs O H Q
theorem zbg{es:List Expr}{k:Nat}{t:TGs}{n:Nat}(hc:X.calm=true)(h:PGs X es t) (hn:(assignEach es X.env).length=n:=by rfl)(hst:(assignEach es X.env).findIdx? (·.1)=none:=by rfl):PG X (.Tuple es k pos) (zh4 X.K n t):=by
 intro pins s O H v u Q I r hw;obtain⟨a,xs,e1,hq,hl,hw⟩:=hw;subst e1;cases r;obtain⟨its,rv,ht,hz⟩:=I.tuple hq;refine assign_Tuple_tuple (I.ok.hd hc) ht (by simp[hn,<- hl,rv.length]) hst λh' hx=>?_;have I1:Inv X pins O H {s with heap:=h'}:=I.kept (t':=s.toks) λb o e=>hx b o (_G (_r e)) e;exact h pins _ O H xs _ Q I1 (by simpa using rv) hw
def zhJ(to ti:TE)(t:zgo):TG:=λv O H Q=>to O H λo H1=>ti O H1 λi H2=>t o i v H2 λH3=>Q O H3
theorem zdm{o i:Expr}{to ti:TE}{t:zgo}(ho:PE X o to)(hi:PE X i ti)(hs:zh3 X t) (ha:∀v,assign (.Subscript o i pos) X.env v=(do
   let ov <- holding [v] (eval o X.env) let iv <- holding [v,ov] (eval i X.env)
   standAt pos
   holding [v,ov,iv] (setItem ov iv v)
   release [v,ov,iv] []):=by intro _;rfl):PG X (.Subscript o i pos) (zhJ to ti t):=by
 intro pins s O H v u Q I r h;rw[ha];refine _a (_ay (thn (ho pins s O H _ I h) λov s1 ⟨x,H1,I1,r1,q1⟩=>?_));refine _a (_ay (thn (hi pins s1 O H1 _ I1 q1) λiv s2 ⟨y,H2,I2,r2,q2⟩=>?_));refine _a (_aM (_a (_ay (thn (hs pins s2 O H2 x y v ov iv u _ I2 r1 r2 r q2) λ_ s3 ⟨H3,I3,q3⟩=>?_))));exact wpAny_release ⟨O,H3,I3,q3⟩
def zfQ(te:TE)(g:TG):TS:=λD O H=>te O H λx H1=>g x O H1 D.nx
theorem zaZ{tg e:Expr}{te:TE}{g:TG}(he:PE X e te)(hg:PG X tg g)(hs:swapsWithSole [tg] e pos.line X.env=pure false:=by rfl)(hw:swappedStores [tg] e X.env=pure none:=by rfl) (h1:(assignEach [tg] X.env).map (·.2)=[assign tg X.env]:=by rfl):PS X (.Assign [tg] e pos) (zfQ te g):=by
 intro pins s O H D I h;refine wpAny_Assign_stores (thn (he pins s O H _ I h) λv s1 ⟨x,H1,I1,r1,q1⟩=>?_) hs hw;rw[h1];exact thn (hg pins s1 O H1 x v _ I1 r1 q1) λ_ s2 q=>q
theorem zfd{i:Nat}{x:Str}{e:Expr}{te:TE}{pos':Pos}(hN:X.N.Nodup)(hi:X.N[i]? = some x)(hx:Loc X.env.scope x)(he:PE X e te)(hs:swapsWith e (some (.Name x pos')) pos.line X.env=pure false:=by rfl)(hf:X.fn x=true\/X.env.scope.names.lookup x=some .local:=by first | exact .inl rfl | exact .inr rfl | assumption): PS X (.Assign [.Name x pos'] e pos) (zfQ te (kY i)):=by
 intro pins s O H D I h;refine wpAny_Assign_Name (thn (he pins s O H _ I h) λv s1 ⟨y,H1,I1,r1,q1⟩=>?_) hs;exact jC I1 hN hi hx r1 (λs2 I2=>⟨_,H1,I2,q1⟩) hf
def zhe(i j:Nat)(ta:TA):TS:=λD O H=>ta O H λvs H1=>∃v w,vs=[v,w]/\D.nx ((O.set i (some v)).set j (some w)) H1
theorem zeq {i j:Nat} {x y:Str} {a b:Expr} {ta:TA} {px py pt:Pos} {kt k2 pt2} (hc:X.calm=true) (hN:X.N.Nodup) (hi:X.N[i]? = some x) (hj:X.N[j]? = some y) (hij:i≠j) (hx:X.env.scope.names.lookup x=some .local) (hy:X.env.scope.names.lookup y=some .local) (ha:PA X [a,b] ta) (hw:swappedStores [.Tuple [.Name x px,.Name y py] kt pt] (.Tuple [a,b] k2 pt2) X.env=pure (some [x,y])) (hs:swapsWithSole [.Tuple [.Name x px,.Name y py] kt pt] (.Tuple [a,b] k2 pt2) pos.line X.env=pure false:=by rfl): PS X (.Assign [.Tuple [.Name x px,.Name y py] kt pt] (.Tuple [a,b] k2 pt2) pos) (zhe i j ta):=by
 intro pins s O H D I h;rw[exec_Assign_arm];refine _a (_aM ?_);rw[hs];refine _a (_c ?_);rw[_j (by decide)];refine _a (Tuple_ (thn (ha _ pins s O H _ I h) λus s1 ⟨vs,H1,I1,r1,q1⟩=>?_));obtain⟨v,w,e1,q1⟩:=q1;subst e1;obtain⟨u1,u2,rfl,rv,rw'⟩:∃u1 u2,us=[u1,u2]/\yq v u1/\yq w u2:=by cases r1 with | cons p q=> cases q with | cons p' q'=>
    cases q';exact⟨_,_,rfl,p,p'⟩
 refine _L ?_ (by show 2<=sizeLine;decide);have I2:Inv X pins O H1 {s1 with heap:=s1.heap.push {cls:=.type "tuple",data:=.seq [u1,u2].toArray}}:=I1.kept (t':=s1.toks) λb o e=>_e _ e;rw[hw];refine _a (_c ?_);show wpAny (model X.prog X.w) X.A (do rule "assign.swapped-stores";let items <- unpackItems (.ref s1.heap.objs.size) 2 none;assignInOrder [λv=>bindName X.env y v,λv=>bindName X.env x v] items.reverse;pure Flow.next) _ _ _;refine _a (_at (_a (unpackItems_tuple (items:=#[u1,u2]) (I.ok.hd hc) (IsTup.new s1.heap _) λh' hx'=>?_)));have I3:=I2.kept (h':=h') (t':=s1.toks) λb o e=>hx' b o (_G (_r e)) e;show wpAny _ _ (assignInOrder [λv=>bindName X.env y v,λv=>bindName X.env x v] [u2,u1] >>= λ_=>pure Flow.next) _ _ _;refine _a (_cU (wpAny_bindName (jC I3 hN hj (.inl hy) rw' (λs2 I4=>?_) (.inr hy))));refine _cU (wpAny_bindName (jC I4 hN hi (.inl hx) rv (λs3 I5=>assignInOrder_nil (_c ?_)) (.inr hx)));rw[List.set_comm _ _ (_a1 hij)]at I5;exact⟨_,H1,I5,q1⟩
def zhS(i:Nat)(te:TE)(ti:TIp):TS:=λD O H=>∃x,O[i]? = some (some x)/\te O H λy H1=>ti x y H1 λz H2=>D.nx (O.set i (some z)) H2
theorem zfo{i:Nat}{x:Str}{e:Expr}{te:TE}{op:Operator}{ti:TIp}{pos':Pos}(hN:X.N.Nodup)(hi:X.N[i]? = some x)(hx:Loc X.env.scope x)(he:PE X e te)(ho:PIp X op ti)(hf:X.fn x=true\/X.env.scope.names.lookup x=some .local:=by first | exact .inl rfl | exact .inr rfl | assumption): PS X (.AugAssign (.Name x pos') op e pos) (zhS i te ti):=by
 intro pins s O H D I h;obtain⟨v,e1,h⟩:=h;obtain⟨m,hn,hl⟩:=I.loc;have vis:Vis X.env.scope x:=by rcases hx with k | k;exact .inl k;exact .inr (.inl k)
 obtain⟨u,r,l⟩:=hl i x v hi e1 vis;refine wpAny_AugAssign_Name ?_;have go:wpAny (model X.prog X.w) X.A (eval e X.env) (λw s₂=>wpAny (model X.prog X.w) X.A (inplaceOp op u w) (λr s₃=>wpAny (model X.prog X.w) X.A (storeName X.env x r) (λ_=>SP X pins D .next) X.xe s₃) X.xe s₂) X.xe s:=by
  refine thn (he pins s O H _ I h) λw s1 ⟨y,H1,I1,r1,q1⟩=>?_;refine thn (ho pins s1 O H1 v y u w _ I1 r r1 q1) λz s2 ⟨zv,H2,I2,r2,q2⟩=>?_;exact jC I2 hN hi hx r2 (λs3 I3=>⟨_,H2,I3,q2⟩) hf
 rcases l with⟨hk,hm⟩ | ⟨hk,c,hc,hcell⟩;·exact wpAny_loadName_local I.ok.kind hk hn hm go
 ·rcases hk with hk | hk;·exact wpAny_loadName_cell I.ok.kind hk hc hcell go
  ·rcases hx with k | k
   ·have:X.env.scope.names.lookup x=some .free:=hk;rw[k]at this;cases this
   ·have:X.env.scope.names.lookup x=some .free:=hk;rw[k]at this;cases this
end
structure It where
 go:Nat->Hp->Prop
 yld:Nat->Hp->V->Hp->Prop
 stop:Nat->Hp->Prop
def z25(X:Cx)(pins:List (Addr×Obj))(H:Hp)(b:Addr):Prop:= H b=none/\b≠X.env.locals/\b∉X.fs/\(b∈X.ex\/X.s₀.heap.objs.size<=b)/\(∀x c,X.env.cells.lookup x=some c->c≠b)/\∀p∈X.pn++pins,p.1≠b
theorem Inv.fpOk{X:Cx}{pins:List (Addr×Obj)}{O:St}{H H':Hp}{s:Shared}{b:Addr}(I:Inv X pins O H s)(hb:s.heap.objs.size<=b)(hn:H' b=none):z25 X pins H' b:=by
 refine⟨hn,Nat.ne_of_gt (_w I.lt hb),I.nofs hb,.inr (_M I.sz hb),λx c e z=>?_,λp hp z=>?_⟩
 ·obtain⟨v,q⟩:=I.cell x c e;exact absurd (_w q.lt (by rw[z];exact hb)) (_ax _)
 ·exact absurd (_w (_r (I.pin p hp).1) (by rw[z];exact hb)) (_ax _)
structure zaY(P:Program)(w:World)(K:W.Frag)(tg:Expr)(J:It)(fp:List Addr)(it:Addr)(tn:Nat->Heap->Prop):Prop where
 mem:it∈fp
 obj:∀i h,tn i h->∀b∈fp,∃o,h.get? b=some o/\∀v,o.data≠.cell v
 keep:∀i h h',tn i h->(∀b∈fp,∀o,h.get? b=some o->h'.get? b=some o)->tn i h'
 item:∀(X:Cx),X.prog=P->X.w=w->X.K=K->X.calm=true->∀(i:Nat)(pins:List (Addr×Obj))(s:Shared)(O:St)(H:Hp)(E:Value->Shared->Prop),Inv X pins O H s->(∀b∈fp,z25 X pins H b)->tn i s.heap->J.go i H-> wpAny (model P w) X.A (pyNext (.ref it)) (λr s1=>∃u,r=some u/\ wpAny (model P w) X.A (letOwnedTupleGo tg (.ref it) u) (λ_ s2=>∃x H',Inv X pins O H' s2/\yq x u/\J.yld i H x H'/\tn (i+1) s2.heap/\∀b∈fp,H' b=none) E s1) E s
 done:∀(X:Cx),X.prog=P->X.w=w->X.K=K->X.calm=true->∀(i:Nat)(pins:List (Addr×Obj))(s:Shared)(O:St)(H:Hp)(E:Value->Shared->Prop),Inv X pins O H s->(∀b∈fp,z25 X pins H b)->tn i s.heap->J.stop i H-> wpAny (model P w) X.A (pyNext (.ref it)) (λr s1=>r=none/\Inv X pins O H s1) E s
 self:∀(A:Around)(i:Nat)(s:Shared)(Q:Value->Shared->Prop)(E:Value->Shared->Prop),tn i s.heap->Q (.ref it) s->wpAny (model P w) A (pyIter (.ref it)) Q E s
abbrev TI:=St->Hp->(It->Hp->Prop)->Prop
def PIE(X:Cx)(pins:List (Addr×Obj))(O:St)(tg:Expr)(R:It->Hp->Prop)(itv:Value)(s2:Shared):Prop:= ∃(it:Addr)(fp:List Addr)(tn:Nat->Heap->Prop)(J:It)(H':Hp),itv=.ref it/\Inv X pins O H' s2/\zaY X.prog X.w X.K tg J fp it tn/\tn 0 s2.heap/\(∀b∈fp,z25 X pins H' b)/\R J H'
def PI(X:Cx)(tg iter:Expr)(wi:TI):Prop:= ∀(pins:List (Addr×Obj))(s:Shared)(O:St)(H:Hp)(R:It->Hp->Prop),Inv X pins O H s->wi O H R-> wpAny (model X.prog X.w) X.A (eval iter X.env) (λv s1=>wpAny (model X.prog X.w) X.A (pyIter v) (PIE X pins O tg R) X.xe s1) X.xe s
theorem z9o{M:Model}{A:Around}{E:Value->Shared->Prop}{s:Shared}{tg:Expr}{it:Addr}{u:Value}{o:Obj}{n:String}{vs:Array Value}{Q:Unit->Shared->Prop}(ho:s.heap.get? it=some o)(hc:o.cls=.type n)(hd:o.data=.fields vs) (hn:["enumerate","zip","dict_itemiterator","dict_reverseitemiterator","odict_iterator","itertools.zip_longest","itertools.pairwise"].contains n=false)(hQ:Q () s):wpAny M A (letOwnedTupleGo tg (.ref it) u) Q E s:=by
  unfold letOwnedTupleGo;cases tg<;>first
    | exact _c hQ | (cases u<;>first
        | exact _c hQ
        | (refine _a (wpAny_load ho ?_);rw[hc,hd];show wpAny M A (if (["enumerate","zip","dict_itemiterator","dict_reverseitemiterator","odict_iterator","itertools.zip_longest","itertools.pairwise"].contains n&&vs[0]? == some (rawInt _))=true then _ else _) Q E s;rw[_j (by intro h;rw[hn,Bool.false_and]at h;cases h)];exact _c hQ))
noncomputable def Itl(K:W.Frag)(a:Addr):It:= ⟨λi H=>∃xs x,SqL K H a xs/\xs[i]? = some x,λi H x H'=>H'=H/\∀xs,SqL K H a xs->xs[i]? = some x,λi H=>∃xs,SqL K H a xs/\xs.length<=i⟩
noncomputable def Itt(K:W.Frag)(a:Addr):It:= ⟨λi H=>∃xs x,SqT K H a xs/\xs[i]? = some x,λi H x H'=>H'=H/\∀xs,SqT K H a xs->xs[i]? = some x,λi H=>∃xs,SqT K H a xs/\xs.length<=i⟩
noncomputable def Itr(lo:Int)(n:Nat):It:=⟨λi _=>i<n,λi H x H'=>H'=H/\x=.int (lo+i),λi _=>n<=i⟩
theorem z8c{P:Program}{w:World}{K:W.Frag}{tg:Expr}(a it:Addr):zaY P w K tg (Itl K a) [it] it (λi h=>h.IsListIter it a i) where
 mem:=by simp
 obj:=λi h st b hb=>by
  have e:b=it:=by simpa using hb
  subst e;obtain⟨o,e,c,d⟩:=st;exact⟨o,e,λv z=>by rw[d]at z;cases z⟩
 keep:=λi h h' st k=>st.at λo e=>k it (by simp) o e;item:=by
  intro X hP hw hK hc i pins s O H E I hf st hg;subst hP hw hK;obtain⟨xs,x,hq,hx⟩:=hg;obtain⟨its,rv,p,hz⟩:=I.list hq;obtain⟨u,hu,ru⟩:=rv.get hx;obtain⟨f0,f1,f2,f3,f4,f5⟩:=hf it (by simp);refine wpAny_pyNext_list_item st p.isList (x:=u) (by simpa using hu) λh' st' sb=>?_;have I1:Inv X pins O H {s with heap:=h'}:=I.turned (t':=s.toks) (λb o hb e=>(sb.2 b hb).trans e) f0 f1 f3 f4 f5;obtain⟨o,e,c,d⟩:=id st';exact⟨u,rfl,z9o (s:={s with heap:=h'}) e c d (by decide) ⟨x,H,I1,ru,⟨rfl,λys hy=>by rw[I.list_inj hy hq];exact hx⟩,st',λb hb=>(hf b hb).1⟩⟩
 done:=by
  intro X hP hw hK hc i pins s O H E I hf st hg;subst hP hw hK;obtain⟨xs,hq,hx⟩:=hg;obtain⟨its,rv,p,hz⟩:=I.list hq;obtain⟨f0,f1,f2,f3,f4,f5⟩:=hf it (by simp);have hl:=rv.length;exact wpAny_pyNext_list_end (I.ok.hd hc) st p.isList (by simp;omega) λh' eb=>⟨rfl,I.turned (t':=s.toks) (λb o hb e=>eb b o hb e) f0 f1 f3 f4 f5⟩
 self:=λ_ _ _ _ _ st h=>wpAny_pyIter_listiter st h
theorem z6O {P:Program} {w:World} {K:W.Frag} {tg:Expr} (a it:Addr):zaY P w K tg (Itt K a) [it] it (λi h=>h.IsTupleIter it a i) where
 mem:=by simp
 obj:=λi h st b hb=>by
  have e:b=it:=by simpa using hb
  subst e;obtain⟨o,e,c,d⟩:=st;exact⟨o,e,λv z=>by rw[d]at z;cases z⟩
 keep:=λi h h' st k=>st.at λo e=>k it (by simp) o e;item:=by
  intro X hP hw hK hc i pins s O H E I hf st hg;subst hP hw hK;obtain⟨xs,x,hq,hx⟩:=hg;obtain⟨its,rv,p,hz⟩:=I.tuple hq;obtain⟨u,hu,ru⟩:=rv.get hx;obtain⟨f0,f1,f2,f3,f4,f5⟩:=hf it (by simp);refine wpAny_pyNext_tuple_item st (show s.heap.IsTuple a its.toArray from p) (x:=u) (by simpa using hu) λh' st' sb=>?_;have I1:Inv X pins O H {s with heap:=h'}:=I.turned (t':=s.toks) (λb o hb e=>(sb.2 b hb).trans e) f0 f1 f3 f4 f5;obtain⟨o,e,c,d⟩:=id st';exact⟨u,rfl,z9o (s:={s with heap:=h'}) e c d (by decide) ⟨x,H,I1,ru,⟨rfl,λys hy=>by rw[I.tuple_inj hy hq];exact hx⟩,st',λb hb=>(hf b hb).1⟩⟩
 done:=by
  intro X hP hw hK hc i pins s O H E I hf st hg;subst hP hw hK;obtain⟨xs,hq,hx⟩:=hg;obtain⟨its,rv,p,hz⟩:=I.tuple hq;obtain⟨f0,f1,f2,f3,f4,f5⟩:=hf it (by simp);have hl:=rv.length;exact wpAny_pyNext_tuple_end (I.ok.hd hc) st (show s.heap.IsTuple a its.toArray from p) (by simp;omega) λh' eb=>⟨rfl,I.turned (t':=s.toks) (λb o hb e=>eb b o hb e) f0 f1 f3 f4 f5⟩
 self:=λ_ _ _ _ _ st h=>wpAny_pyIter_tupleiter st h
theorem z6j {P:Program} {w:World} {K:W.Frag} {tg:Expr} (it:Addr) (lo:Int) (n:Nat):zaY P w K tg (Itr lo n) [it] it (λi h=>IsRangeIter h it (lo+(i:Nat)*1) ((n:Int)-(i:Nat)) 1) where
 mem:=by simp
 obj:=λi h st b hb=>by
  have e:b=it:=by simpa using hb
  subst e;exact⟨_,st,λv z=>by
   have z':Data.fields _=Data.cell v:=z;cases z'⟩
 keep:=λi h h' st k=>k it (by simp) _ st;item:=by
  intro X hP hw hK hc i pins s O H E I hf st hg;subst hP hw hK;obtain⟨f0,f1,f2,f3,f4,f5⟩:=hf it (by simp);have W:=Walks.range (prog:=X.prog) (w:=X.w) (I.ok.hd hc) it lo 1 n;refine W.item i s _ _ hg st λv h' tk hv st' kk=>?_;obtain⟨t,rfl⟩:=hv;have I1:Inv X pins O H {s with heap:=h',toks:=tk}:=I.turned (λb o hb e=>kk b o (by simpa using hb) e) f0 f1 f3 f4 f5;refine⟨_,rfl,z9o (s:={s with heap:=h',toks:=tk}) (n:="range_iterator") st' rfl rfl (by decide) ⟨.int (lo+i),H,I1,⟨t,?_⟩,⟨rfl,rfl⟩,st',λb hb=>(hf b hb).1⟩⟩;rw[Int.mul_one]
 done:=by
  intro X hP hw hK hc i pins s O H E I hf st hg;subst hP hw hK;obtain⟨f0,f1,f2,f3,f4,f5⟩:=hf it (by simp);exact wpAny_pyNext_range_end (I.ok.hd hc) st (by have:n<=i:=hg;omega) λh' eb=>⟨rfl,I.turned (t':=s.toks) (λb o hb e=>eb b o hb e) f0 f1 f3 f4 f5⟩
 self:=λ_ _ _ _ _ st h=>wpAny_pyIter_rangeiter st h
section
variable {X:Cx}{tg:Expr}
theorem z5j{pins:List (Addr×Obj)}{O:St}{H:Hp}{s:Shared}{R:It->Hp->Prop}{E:Value->Shared->Prop}{lo hi:Int}{t u v:Tok}{tk:Nat}(I:Inv X pins O H s)(h1:-(2 ^ 62)<=lo)(h2:lo<2 ^ 62)(h3:-(2 ^ 62)<=hi)(h4:hi<2 ^ 62) (q:R (Itr lo (hi-lo).toNat) H):wpAny (model X.prog X.w) X.A (pyIter (.ref s.heap.objs.size)) (PIE X pins O tg R) E {s with heap:=s.heap.push {cls:=.type "range",data:=.fields #[.int lo t,.int hi u,.int 1 v]},toks:=tk}:=by
 refine wpAny_pyIter_range (IsRange.new ..) (small_one h1 h2 h3 h4) ?_;have I1:Inv X pins O H {s with heap:=s.heap.push {cls:=.type "range",data:=.fields #[.int lo t,.int hi u,.int 1 v]},toks:=tk}:=I.kept λb o e=>_e _ e;refine⟨(s.heap.push {cls:=.type "range",data:=.fields #[.int lo t,.int hi u,.int 1 v]}).objs.size,[(s.heap.push {cls:=.type "range",data:=.fields #[.int lo t,.int hi u,.int 1 v]}).objs.size],_,_,H,rfl, I1.kept (t':=tk) λb o e=>_e _ e,z6j _ lo (hi-lo).toNat,?_,λb hb=>?_,q⟩
 ·have e1:lo+((0:Nat):Int)*1=lo:=by simp
  have e2:(((hi-lo).toNat:Nat):Int)-((0:Nat):Int)=Builtin.Range.rangeSize lo hi 1:=by rw[rangeSize_one];split<;>omega
  show IsRangeIter _ _ (lo+((0:Nat):Int)*1) ((((hi-lo).toNat:Nat):Int)-((0:Nat):Int)) 1;rw[e1,e2];exact _t _ rfl
 ·have e:b=(s.heap.push {cls:=.type "range",data:=.fields #[.int lo t,.int hi u,.int 1 v]}).objs.size:=by simpa using hb
  subst e;exact I1.fpOk (_f _) (I1.hok.fresh (_f _))
def zfL(ta:TA):TI:=λO H R=>ta O H λvs H1=>∃j:Int,vs=[.int j]/\-(2 ^ 62)<=j/\j<2 ^ 62/\R (Itr 0 j.toNat) H1
def zg7(ta:TA):TI:=λO H R=>ta O H λvs H1=>∃i j:Int,vs=[.int i,.int j]/\(-(2 ^ 62)<=i/\i<2 ^ 62/\-(2 ^ 62)<=j/\j<2 ^ 62)/\R (Itr i (j-i).toNat) H1
theorem z8W{a:Expr}{ta:TA}{p pos:Pos}(hg:Gl X "range")(hm:X.mg "range"=none)(ha:PA X [a] ta)(hs:starEach [a] X.env=[(false,eval a X.env)]:=by rfl):PI X tg (.Call (.Name "range" p) [a] [] pos) (zfL ta):=by
 intro pins s O H R I h;refine Call_ (z18 I hg hm boot_range (_a7 (thn (ha pos pins s O H _ I h) λus s1 ⟨vs,H1,I1,r1,q1⟩=>?_) hs rfl));obtain⟨j,e,q1,q2,q⟩:=q1;subst e;cases r1 with | cons r rr=>
  cases rr;obtain⟨t,rfl⟩:=r;exact call_range_1 (z5j I1 (by omega) (by omega) q1 q2 (by simpa using q))
theorem z7P{a b:Expr}{ta:TA}{p pos:Pos}(hg:Gl X "range")(hm:X.mg "range"=none)(ha:PA X [a,b] ta)(hs:starEach [a,b] X.env=[(false,eval a X.env),(false,eval b X.env)]:=by rfl)(hs2:starEach [b] X.env=[(false,eval b X.env)]:=by rfl): PI X tg (.Call (.Name "range" p) [a,b] [] pos) (zg7 ta):=by
 intro pins s O H R I h;refine Call_ (z18 I hg hm boot_range (_a7 (thn (ha pos pins s O H _ I h) λus s1 ⟨vs,H1,I1,r1,q1⟩=>?_) (by rw[hs,hs2]) (by rw[hs2];rfl)));obtain⟨i,j,e,⟨q1,q2,q3,q4⟩,q⟩:=q1;subst e;cases r1 with | cons r rr=> cases rr with | cons r' rr=>
   cases rr;obtain⟨t,rfl⟩:=r;obtain⟨t',rfl⟩:=r';exact call_range_2 (z5j I1 q1 q2 q3 q4 q)
def zhH(wi:TI)(g:TG)(tb:TS):TS:=λD O H=>wi O H λJ H1=>∃W:Nat->Nat->St->Hp->Prop,(∃m,W 0 m O H1)/\∀i m O H,W i m O H-> (J.stop i H/\D.nx O H)\/(J.go i H/\∃N:St->Hp->Prop,(∀O' H',N O' H'->∃m',m'<m/\W (i+1) m' O' H')/\∀x H',J.yld i H x H'->g x O H' λO2 H2=>tb {D with nx:=N,ct:=N,bk:=D.nx} O2 H2)
noncomputable def z1V(fp:List Addr)(h:Heap):List (Addr×Obj):=fp.filterMap λb=>(h.get? b).map λo=>(b,o)
theorem vZ{fp:List Addr}{h:Heap}{b:Addr}{o:Obj}(hb:b∈fp)(e:h.get? b=some o):(b,o)∈z1V fp h:=_cV.mpr ⟨b,hb,by rw[e];rfl⟩
theorem z7X{fp:List Addr}{h:Heap}{p:Addr×Obj}(hp:p∈z1V fp h):p.1∈fp/\h.get? p.1=some p.2:=by
 obtain⟨b,hb,e⟩:=_cV.mp hp;cases q:h.get? b with
 | none=>rw[q]at e;cases e | some o=>
  rw[q]at e;have e':(b,o)=p:=_v e;subst e';exact⟨hb,q⟩
theorem Inv.pinned{pins:List (Addr×Obj)}{O:St}{H:Hp}{s:Shared}{fp:List Addr}(I:Inv X pins O H s)(hf:∀b∈fp,z25 X pins H b)(ho:∀b∈fp,∃o,s.heap.get? b=some o/\∀v,o.data≠.cell v):Inv X (pins++z1V fp s.heap) O H s:= I.pins_of λp hp=>(_E.mp hp).elim (λz=>I.pin p (_x _ z)) λz=>by
  obtain⟨hb,e⟩:=z7X z;obtain⟨f0,f1,f2,_⟩:=hf p.1 hb;obtain⟨o,e',d⟩:=ho p.1 hb;rw[e]at e';cases e';exact⟨e,f0,f1,f2,d⟩
theorem Inv.unpinned{pins pl:List (Addr×Obj)}{O:St}{H:Hp}{s:Shared}(I:Inv X (pins++pl) O H s):Inv X pins O H s:=I.pins_of λp hp=>I.pin p (_x _ (_aY _ hp))
theorem zet{iter:Expr}{body:List Stmt}{wi:TI}{g:TG}{tb:TS}{pos:Pos}(hp:PassesOwn (model X.prog X.w) X.A X.env X.xe)(hc:X.calm=true)(hi:PI X tg iter wi)(hg:PG X tg g)(hb:PSs X body tb) (hs:∀x,foldedSetIterable iter X.env x=pure x:=by intro _;rfl):PS X (.For tg iter body [] pos) (zhH wi g tb):=by
 intro pins s O H D I h;refine wpAny_For (thn (hi pins s O H _ I h) λv s1 h1=>thn h1 λitv s2 h2=>?_) hs;obtain⟨it,fp,tn,J,H2,e,I2,T,st2,f2,W,⟨m0,w0⟩,turn⟩:=h2;subst e;have stat:∀{H':Hp},(∀b∈fp,H' b=none)->∀b∈fp,z25 X pins H' b:=λhn b hb=>⟨hn b hb,(f2 b hb).2⟩;refine codeAny_forLoop_any (λn s'=>∃i O' H',Inv X pins O' H' s'/\tn i s'.heap/\(∀b∈fp,H' b=none)/\W i n O' H') ?_ m0 ⟨0,O,H2,I2,st2,λb hb=>(f2 b hb).1,w0⟩;rintro n s3 ⟨i,O3,H3,I3,st3,fr3,w3⟩;rcases turn i n O3 H3 w3 with⟨stop,qn⟩ | ⟨go,N,hN,step⟩
 ·refine _bO hp (thn (T.done X rfl rfl rfl hc i pins s3 O3 H3 X.xe I3 (stat fr3) st3 stop) λr s4 ⟨hr,I4⟩=>?_);subst hr;exact wpAny_execs_nil ⟨O3,H3,I4,qn⟩
 ·refine _bO hp (thn (T.item X rfl rfl rfl hc i pins s3 O3 H3 X.xe I3 (stat fr3) st3 go) λr s4 ⟨u,hr,h4⟩=>?_);subst hr;refine _bO hp (thn h4 λ_ s5 ⟨x,H5,I5,r5,y5,st5,fr5⟩=>?_);have I5':=I5.pinned (stat fr5) (T.obj _ _ st5);refine _bO hp (thn (hg _ s5 O3 H5 x u _ I5' r5 (step x H5 y5)) λ_ s6 ⟨O6,H6,I6,q6⟩=>?_);refine _bO hp (thn (hb _ s6 O6 H6 _ I6 q6) λf s7 q7=>?_);have again:∀{O7:St}{H7:Hp},Inv X (pins++z1V fp s5.heap) O7 H7 s7->N O7 H7->∃m,m<n/\∃i O' H',Inv X pins O' H' s7/\tn i s7.heap/\(∀b∈fp,H' b=none)/\W i m O' H':=λ{O7 H7} I7 n7=>by
   obtain⟨m',hm,w7⟩:=hN O7 H7 n7;refine⟨m',hm,i+1,O7,H7,I7.unpinned,T.keep _ _ _ st5 λb hb o e=>(I7.pin (b,o) (_x _ (_x _ (vZ hb e)))).1,λb hb=>?_,w7⟩;obtain⟨o,e,d⟩:=T.obj _ _ st5 b hb;exact (I7.pin (b,o) (_x _ (_x _ (vZ hb e)))).2.1
  cases f with
  | next=>obtain⟨O7,H7,I7,n7⟩:=q7;exact again I7 n7 | cont=>obtain⟨O7,H7,I7,n7⟩:=q7;exact again I7 n7 | brk=>obtain⟨O7,H7,I7,q7⟩:=q7;exact⟨O7,H7,I7.unpinned,q7⟩ | ret v=>obtain⟨x7,O7,H7,I7,r7,q7⟩:=q7;exact⟨x7,O7,H7,I7.unpinned,r7,q7⟩
end
abbrev R2:=V->V->Hp->VK->Prop
def OpR(X:Cx)(f:Value->Value->Sem Value)(r:R2):Prop:= ∀(pins:List (Addr×Obj))(s:Shared)(O:St)(H:Hp)(x y:V)(v u:Value)(Q:VK),Inv X pins O H s->yq x v->yq y u->r x y H Q-> wpAny (model X.prog X.w) X.A (f v u) (EP X pins O Q) X.xe s
def UnR(X:Cx)(f:Value->Sem Value)(r:V->Hp->VK->Prop):Prop:= ∀(pins:List (Addr×Obj))(s:Shared)(O:St)(H:Hp)(x:V)(v:Value)(Q:VK),Inv X pins O H s->yq x v->r x H Q-> wpAny (model X.prog X.w) X.A (f v) (EP X pins O Q) X.xe s
def xG(X:Cx)(f:Value)(r:List V->Hp->VK->Prop):Prop:= ∀(pins:List (Addr×Obj))(s:Shared)(O:St)(H:Hp)(xs:List V)(us:List Value)(Q:VK),Inv X pins O H s->yF xs us->r xs H Q-> wpAny (model X.prog X.w) X.A (call f us) (EP X pins O Q) X.xe s
def zhO(X:Cx)(r:V->Hp->(Bool->Hp->Prop)->Prop):Prop:= ∀(pins:List (Addr×Obj))(s:Shared)(O:St)(H:Hp)(x:V)(v:Value)(Q:Bool->Hp->Prop),Inv X pins O H s->yq x v->r x H Q-> wpAny (model X.prog X.w) X.A (truthy v) (TP X pins O Q) X.xe s
def tOp(r:R2)(ta tb:TE):TE:=λO H Q=>ta O H λx H1=>tb O H1 λy H2=>r x y H2 Q
def tUn(r:V->Hp->VK->Prop)(ta:TE):TE:=λO H Q=>ta O H λx H1=>r x H1 Q
def rI(C:Int->Int->Prop)(g:Int->Int->V):R2:=λx y H Q=>∃i j,x=.int i/\y=.int j/\C i j/\Q (g i j) H
def rI0(g:Int->Int->V):R2:=λx y H Q=>∃i j,x=.int i/\y=.int j/\Q (g i j) H
def rU(g:Int->V):V->Hp->VK->Prop:=λx H Q=>∃i,x=.int i/\Q (g i) H
section
variable {X:Cx}{a b c:Expr}{ta tb tc:TE}{pos:Pos}
theorem zgB(ha:PE X a ta)(hb:PE X b tb){pins:List (Addr×Obj)}{s:Shared}{O:St}{H:Hp}{R:V->V->Hp->Prop}(I:Inv X pins O H s) (h:ta O H λx H1=>tb O H1 λy H2=>R x y H2){Q:Value->Shared->Prop}{f:Value->Value->Sem Value} (hf:∀v u s2 x y H2,Inv X pins O H2 s2->yq x v->yq y u->R x y H2->wpAny (model X.prog X.w) X.A (f v u) Q X.xe s2): wpAny (model X.prog X.w) X.A (eval a X.env) (λv s₁=>wpAny (model X.prog X.w) X.A (eval b X.env) (λu s₂=>wpAny (model X.prog X.w) X.A (f v u) Q X.xe s₂) X.xe s₁) X.xe s:=by
 refine thn (ha pins s O H _ I h) λv s1 ⟨x,H1,I1,r1,q1⟩=>?_;refine thn (hb pins s1 O H1 _ I1 q1) λu s2 ⟨y,H2,I2,r2,q2⟩=>?_;exact hf v u s2 x y H2 I2 r1 r2 q2
theorem zdo{op:Operator}{r:R2}(ho:OpR X (binaryOp op) r)(ha:PE X a ta)(hb:PE X b tb):PE X (.BinOp a op b pos) (tOp r ta tb):=by
 intro pins s O H Q I h;exact wpAny_BinOp (zgB ha hb I h λv u s2 x y H2 I2 rx ry q=>ho pins s2 O H2 x y v u Q I2 rx ry q)
theorem zeW{op:UnaryOp}{r:V->Hp->VK->Prop}(ho:UnR X (unaryOp op) r)(ha:PE X a ta):PE X (.UnaryOp op a pos) (tUn r ta):=by
 intro pins s O H Q I h;exact UnaryOp_ (thn (ha pins s O H _ I h) λv s1 ⟨x,H1,I1,r1,q1⟩=>ho pins s1 O H1 x v Q I1 r1 q1)
theorem opI {f:Value->Value->Sem Value} {C:Int->Int->Prop} {g:Int->Int->Int} (rule:∀(i j:Int) (t u:Tok) (s:Shared) (Q:Value->Shared->Prop) (E:Value->Shared->Prop),C i j->Q (.int (g i j) s.toks) {s with toks:=s.toks+1}->wpAny (model X.prog X.w) X.A (f (.int i t) (.int j u)) Q E s): OpR X f (rI C λi j=>.int (g i j)):=by
 intro pins s O H x y v u Q I rx ry h;obtain⟨i,j,rfl,rfl,hc,q⟩:=h;obtain⟨t,rfl⟩:=rx;obtain⟨t',rfl⟩:=ry;exact rule i j t t' s _ _ hc ⟨.int (g i j),H,I.tok _,⟨_,rfl⟩,q⟩
theorem zgY {f:Value->Value->Sem Value} {g:Int->Int->Int} (rule:∀(i j:Int) (t u:Tok) (s:Shared) (Q:Value->Shared->Prop) (E:Value->Shared->Prop),Q (.int (g i j) s.toks) {s with toks:=s.toks+1}->wpAny (model X.prog X.w) X.A (f (.int i t) (.int j u)) Q E s): OpR X f (rI0 λi j=>.int (g i j)):=by
 intro pins s O H x y v u Q I rx ry h;obtain⟨i,j,rfl,rfl,q⟩:=h;obtain⟨t,rfl⟩:=rx;obtain⟨t',rfl⟩:=ry;exact rule i j t t' s _ _ ⟨.int (g i j),H,I.tok _,⟨_,rfl⟩,q⟩
theorem zfz{f:Value->Value->Sem Value}{g:Int->Int->Bool} (rule:∀(i j:Int)(t u:Tok)(s:Shared)(Q:Value->Shared->Prop)(E:Value->Shared->Prop),Q (.bool (g i j)) s->wpAny (model X.prog X.w) X.A (f (.int i t) (.int j u)) Q E s): OpR X f (rI0 λi j=>.bl (g i j)):=by
 intro pins s O H x y v u Q I rx ry h;obtain⟨i,j,rfl,rfl,q⟩:=h;obtain⟨t,rfl⟩:=rx;obtain⟨t',rfl⟩:=ry;exact rule i j t t' s _ _ ⟨.bl (g i j),H,I,rfl,q⟩
def zhj(i j:Int):Prop:=0<=j/\j<=1000000/\i.natAbs<2 ^ 64
theorem zes:OpR X (binaryOp .Add) (rI0 λi j=>.int (i+j)):=zgY λ_ _ _ _ _ _ _ q=>add_int q
theorem zdv:OpR X (binaryOp .Sub) (rI0 λi j=>.int (i-j)):=zgY λ_ _ _ _ _ _ _ q=>sub_int q
theorem zdF:OpR X (binaryOp .Mod) (rI (λ_ j=>0<j) λi j=>.int (i % j)):=opI λi j _ _ _ _ _ hc q=>by
 have h1:(0:Int)<j:=hc;exact mod_int' (by omega) (by rw[Int.fmod_eq_emod_of_nonneg i (by omega)];exact q)
theorem zeX:OpR X (binaryOp .Pow) (rI zhj λi j=>.int (i ^ j.toNat)):=opI λ_ _ _ _ _ _ _ hc q=>pow_int_small hc.1 hc.2.1 hc.2.2 q
theorem unI {f:Value->Sem Value} {g:Int->Int} (rule:∀(i:Int) (t:Tok) (s:Shared) (Q:Value->Shared->Prop) (E:Value->Shared->Prop),Q (.int (g i) s.toks) {s with toks:=s.toks+1}->wpAny (model X.prog X.w) X.A (f (.int i t)) Q E s): UnR X f (rU λi=>.int (g i)):=by
 intro pins s O H x v Q I rx h;obtain⟨i,rfl,q⟩:=h;obtain⟨t,rfl⟩:=rx;exact rule i t s _ _ ⟨.int (g i),H,I.tok _,⟨_,rfl⟩,q⟩
theorem zaW:UnR X (unaryOp .USub) (rU λi=>.int (-i)):=unI λ_ _ _ _ _ q=>neg_int q
end
section
variable {X:Cx}{a b c:Expr}{ta tb tc:TE}{pos:Pos}
theorem ze2{pins:List (Addr×Obj)}{O:St}{H:Hp}{s:Shared}{Q:VK}{k k':Bool}(I:Inv X pins O H s)(q:Q (.bl k) H)(e:k=k'):EP X pins O Q (.bool k') s:=by
 subst e;exact⟨.bl k,H,I,rfl,q⟩
theorem zgu:OpR X (compareOp .Lt) (rI0 λi j=>.bl (decide (i<j))):=zfz λ_ _ _ _ _ _ _ q=>lt_int q
theorem zfB:OpR X (compareOp .LtE) (rI0 λi j=>.bl (decide (i<=j))):=zfz λ_ _ _ _ _ _ _ q=>le_int q
theorem zg4:OpR X (compareOp .Gt) (rI0 λi j=>.bl (decide (j<i))):=zfz λ_ _ _ _ _ _ _ q=>gt_int q
theorem zg9:OpR X (compareOp .GtE) (rI0 λi j=>.bl (decide (j<=i))):=zfz λ_ _ _ _ _ _ _ q=>ge_int q
theorem zdp:OpR X (compareOp .Is) (λx y H Q=>y=.non/\Q (.bl (decide (x=.non))) H):=by
 intro pins s O H x y v u Q I rx ry h;obtain⟨rfl,q⟩:=h;cases ry;refine is_none_gen (ze2 I q ?_);cases x<;>first
  | (cases rx;rfl) | (obtain⟨t,rfl⟩:=rx;rfl)
theorem OpR.or{f:Value->Value->Sem Value}{r r':R2}(h:OpR X f r)(h':OpR X f r'):OpR X f (λx y H Q=>r x y H Q\/r' x y H Q):=by
 intro pins s O H x y v u Q I rx ry q;rcases q with q | q;·exact h pins s O H x y v u Q I rx ry q
 ·exact h' pins s O H x y v u Q I rx ry q
theorem zbm(b:Expr){op:CmpOp}(h:op≠.In:=by decide)(h2:op≠.NotIn:=by decide):behindInMarks op b=false:=by
 have e1:(op==CmpOp.In)=false:=by cases op<;>first | rfl | exact absurd rfl h
 have e2:(op==CmpOp.NotIn)=false:=by cases op<;>first | rfl | exact absurd rfl h2
 cases b<;>simp[behindInMarks,e1,e2]
theorem zcP{op:CmpOp}{r:R2}(ho:OpR X (compareOp op) r)(ha:PE X a ta)(hb:PE X b tb)(hm:behindInMarks op b=false):PE X (.Compare a [op] [b] pos) (tOp r ta tb):=by
 intro pins s O H Q I h;exact wpAny_Compare1 (zgB ha hb I h λv u s2 x y H2 I2 rx ry q=>ho pins s2 O H2 x y v u Q I2 rx ry q) hm
def zcc(t:TE):TT:=λO H Q=>t O H λx H'=>∃k,x=.bl k/\Q k H'
theorem zc2{op:CmpOp}{r:R2}(ho:OpR X (compareOp op) r)(ha:PE X a ta)(hb:PE X b tb)(hm:behindInMarks op b=false):PT X (.Compare a [op] [b] pos) (zcc (tOp r ta tb)):=by
 intro pins s O H Q I h;refine wpAny_isTrue_Compare1 (thn (ha pins s O H _ I h) λv s1 ⟨x,H1,I1,r1,q1⟩=>thn (hb pins s1 O H1 _ I1 q1) λu s2 ⟨y,H2,I2,r2,q2⟩=> thn (ho pins s2 O H2 x y v u _ I2 r1 r2 q2) λc s3 ⟨z,H3,I3,r3,k,e,q3⟩=>?_) hm;subst e;cases r3;exact _ak ⟨H3,I3,q3⟩
def z7x(r r':R2)(ta tb tc:TE):TE:=λO H Q=>ta O H λx H1=>tb O H1 λy H2=>r x y H2 λz H3=>∃k,z=.bl k/\ (if k=true then tc O H3 λw' H4=>r' y w' H4 Q else Q (.bl false) H3)
theorem za6{op op':CmpOp}{r r':R2}(ho:OpR X (compareOp op) r)(ho':OpR X (compareOp op') r')(ha:PE X a ta)(hb:PE X b tb)(hc:PE X c tc) (hm:lastMarks [op,op'] [b,c]=false:=by with_unfolding_all rfl):PE X (.Compare a [op,op'] [b,c] pos) (z7x r r' ta tb tc):=by
 intro pins s O H Q I h;refine Compare_chain (thn (ha pins s O H _ I h) λv s1 ⟨x,H1,I1,r1,q1⟩=>chain_link (thn (hb pins s1 O H1 _ I1 q1) λu s2 ⟨y,H2,I2,r2,q2⟩=> thn (ho pins s2 O H2 x y v u _ I2 r1 r2 q2) λd s3 ⟨z,H3,I3,r3,k,e,q3⟩=>?_)) hm;subst e;cases r3;refine _ak ?_;cases k with
 | false=>exact ite_ff ⟨.bl false,H3,I3,rfl,q3⟩ | true=>exact ite_tt (chain_last (thn (hc pins s3 O H3 _ I3 q3) λw' s4 ⟨z',H4,I4,r4,q4⟩=>ho' pins s4 O H4 y z' u w' Q I4 r2 r4 q4))
theorem zaf{op op':CmpOp}{r r':R2}(ho:OpR X (compareOp op) r)(ho':OpR X (compareOp op') r')(ha:PE X a ta)(hb:PE X b tb)(hc:PE X c tc) (hm:lastMarks [op,op'] [b,c]=false:=by with_unfolding_all rfl):PT X (.Compare a [op,op'] [b,c] pos) (zcc (z7x r r' ta tb tc)):=by
 intro pins s O H Q I h;refine isTrue_chain (thn (ha pins s O H _ I h) λv s1 ⟨x,H1,I1,r1,q1⟩=>test_link (thn (hb pins s1 O H1 _ I1 q1) λu s2 ⟨y,H2,I2,r2,q2⟩=> thn (ho pins s2 O H2 x y v u _ I2 r1 r2 q2) λd s3 ⟨z,H3,I3,r3,k,e,q3⟩=>?_)) hm;subst e;cases r3;refine _ak ?_;cases k with
 | false=>
  obtain⟨k',e',q'⟩:=q3;cases e';exact ite_ff ⟨H3,I3,q'⟩ | true=>
  refine ite_tt (test_last (thn (hc pins s3 O H3 _ I3 q3) λw' s4 ⟨z',H4,I4,r4,q4⟩=>thn (ho' pins s4 O H4 y z' u w' _ I4 r2 r4 q4) λd' s5 ⟨z2,H5,I5,r5,k2,e2,q5⟩=>?_));subst e2;cases r5;exact _ak ⟨H5,I5,q5⟩
def zh6(K:W.Frag)(x:V)(H:Hp)(k:Bool):Prop:= match x with
 | .non=>k=false | .bl b=>k=b | .int i=>k=(i != 0) | .str y=>y.length<=sizeLine/\k=((y.length:Int) != 0) | .byt y=>y.size<=sizeLine/\k=((y.size:Int) != 0) | .ref p=>(∃xs,SqL K H p xs/\k=!xs.isEmpty)\/(∃xs,SqT K H p xs/\k=!xs.isEmpty)\/∃kvs,H p=some (.dK kvs)/\k=!kvs.isEmpty | _=>False
theorem z6M{κ:Type}{kvs:List (κ×V)}{vs:List (κ×Value)}(r:KV kvs vs):(!vs.isEmpty)=!kvs.isEmpty:=by cases r<;>rfl
theorem z1H{xs:List V}{its:List Value}(r:yF xs its):(!its.toArray.isEmpty)=!xs.isEmpty:=by cases r<;>simp
theorem z3N:(sizeLine:Nat)<2 ^ 63:=by rw[sizeLine_eq];decide
theorem zea:zhO X (λx H Q=>∃k,zh6 X.K x H k/\Q k H):=by
 intro pins s O H x v Q I rx h;obtain⟨k,e,q⟩:=h;have hl:=z3N;have hs:sizeLine=16777216:=sizeLine_eq;cases x with
 | non=>
  cases rx;have e':k=false:=e;subst e';exact truthy_none ⟨H,I,q⟩ | bl b=>
  cases rx;have e':k=b:=e;subst e';exact _ak ⟨H,I,q⟩ | int i=>
  obtain⟨t,rfl⟩:=rx;have e':k=(i != 0):=e;subst e';exact PySem.P.truthy_int ⟨H,I,q⟩ | str y=>
  obtain⟨t,rfl⟩:=rx;obtain⟨hy,e'⟩:y.length<=sizeLine/\k=((y.length:Int) != 0):=e;subst e';exact PySem.P.truthy_str (by omega) ⟨H,I.tok _,q⟩ | byt y=>
  obtain⟨t,rfl⟩:=rx;obtain⟨hy,e'⟩:y.size<=sizeLine/\k=((y.size:Int) != 0):=e;subst e';exact W.truthy_bytes (by omega) ⟨H,I.tok _,q⟩ | ref p=>
  cases rx;have e':(∃xs,SqL X.K H p xs/\k=!xs.isEmpty)\/(∃xs,SqT X.K H p xs/\k=!xs.isEmpty)\/∃kvs,H p=some (.dK kvs)/\k=!kvs.isEmpty:=e;rcases e' with⟨xs,hx,e'⟩ | ⟨xs,hx,e'⟩ | ⟨kvs,hx,e'⟩
  ·subst e';obtain⟨its,r,pl,hz⟩:=I.list hx;have hlen:=r.length;exact wpAny_truthy_list pl.isList (by simp only[_k];omega) ⟨H,I.tok _,by rw[z1H r];exact q⟩
  ·subst e';obtain⟨its,r,pl,hz⟩:=I.tuple hx;have hlen:=r.length;exact truthy_tuple pl (by simp only[_k];omega) ⟨H,I.tok _,by rw[z1H r];exact q⟩
  ·subst e';obtain⟨hz,hS,vs,r,m⟩:kvs.length<=sizeLine/\(p==sysModules)=false/\∃vs,KV kvs vs/\s.heap.DictOf (yJ X.prog X.w) p vs:=I.hok p _ hx;have hlen:kvs.length=vs.length:=_dg r;exact wpAny_truthy_dict hS m (by omega) ⟨H,I.tok _,by rw[z6M r];exact q⟩ | _=>exact (show False from e).elim
theorem vals1{x:V}{us:List Value}(r:yF [x] us):∃u,us=[u]/\yq x u:=by cases r with | cons r1 r2=>cases r2;exact⟨_,rfl,r1⟩
theorem vals2{x y:V}{us:List Value}(r:yF [x,y] us):∃u w',us=[u,w']/\yq x u/\yq y w':=by cases r with | cons r1 r2=> cases r2 with | cons r3 r4=>cases r4;exact⟨_,_,rfl,r1,r3⟩
theorem z9w:xG X (.builtin "abs") (λxs H Q=>∃i,xs=[.int i]/\Q (.int (if i<0 then -i else i)) H):=by
 intro pins s O H xs us Q I r h;obtain⟨i,rfl,q⟩:=h;obtain⟨u,rfl,t,rfl⟩:=vals1 r;exact call_abs_int λu tk=>⟨.int (if i<0 then -i else i),H,I.tok _,⟨_,rfl⟩,q⟩
theorem z8d(hc:X.calm=true):xG X (.builtin "max") (λxs H Q=>∃i j,xs=[.int i,.int j]/\Q (.int (if j > i then j else i)) H):=by
 intro pins s O H xs us Q I r h;obtain⟨i,j,rfl,q⟩:=h;obtain⟨u,w',rfl,⟨t,rfl⟩,⟨t',rfl⟩⟩:=vals2 r;refine max_two_ints (I.ok.hd hc) λh' tk k=>⟨_,H,I.kept k,?_,q⟩;by_cases hj:j > i;·rw[_g hj,_g hj];exact⟨_,rfl⟩
 ·rw[_j hj,_j hj];exact⟨_,rfl⟩
theorem z7g(hc:X.calm=true):xG X (.builtin "min") (λxs H Q=>∃i j,xs=[.int i,.int j]/\Q (.int (if j<i then j else i)) H):=by
 intro pins s O H xs us Q I r h;obtain⟨i,j,rfl,q⟩:=h;obtain⟨u,w',rfl,⟨t,rfl⟩,⟨t',rfl⟩⟩:=vals2 r;refine min_two_ints (I.ok.hd hc) λh' tk k=>⟨_,H,I.kept k,?_,q⟩;by_cases hj:j<i;·rw[_g hj,_g hj];exact⟨_,rfl⟩
 ·rw[_j hj,_j hj];exact⟨_,rfl⟩
end
structure zgH(h:Heap)(x dx C:Addr)(mA:Str->Option Value):Prop where
 obj:h.get? x=some (W.instObj C dx)
 ns:h.Ns1 dx mA
 ne:dx≠x
theorem z8C{h:Heap}{dx:Addr}{mA:Str->Option Value}(n:h.Ns1 dx mA):∃od,h.get? dx=some od/\∀name,W.lookIn name od=some (mA name):=by
 obtain⟨o,es,ep,ho,hd,hk,_,hm⟩:=n;refine⟨o,ho,λname=>?_⟩;have e:=hm name;unfold nsFind findBy at e;rw[<- Array.find?_toList]at e;unfold W.lookIn;rw[hd];dsimp only;split
 ·rename_i y q;rw[q]at e;exact _ba some e
 ·rename_i q;rw[q]at e;have a:es.toList.any (·.refKey)=false:=by
   rw[List.any_eq_false];intro y hy;obtain⟨z,t,hkey⟩:=hk y (Array.mem_toList_iff.mp hy);simp[DictEntry.refKey,hkey]
  have a':¬ es.toList.any (·.refKey)=true:=by rw[a];exact _bb
  rw[_j a'];exact _ba some e
theorem zgH.look{h:Heap}{x dx C:Addr}{mA:Str->Option Value}(I:zgH h x dx C mA):∃od,W.InstAt h x (W.instObj C dx) C (some od)/\∀name,W.lookIn name od=some (mA name):= let ⟨od,ho,hl⟩:=z8C I.ns;⟨od,⟨I.obj,rfl,rfl,ho⟩,hl⟩
theorem z93.some_of{v:V}{o:Option Value}(r:z93 (some v) o):∃u,o=some u/\yq v u:=by cases o with
 | none=>exact (show False from r).elim | some u=>exact⟨u,rfl,r⟩
section
variable {P:Program}{w:World}{H H':Hp}{h h':Heap}{a C dx:Addr}{fs fs':List (Str×V)}
theorem zck(hok:HOk P w H h)(e:H a=some (.ins C dx fs)):∃mA,zgH h a dx C mA/\(∀f,z93 (fs.lookup f) (mA f))/\PySem.Within mA (fs.map (·.1))/\fs.length<=1000/\H dx=some (.own a):=by
 obtain⟨d,z,ne,ob,mA,n,r,q⟩:=(show yN P w H h a (.ins C dx fs) from hok a _ e);exact⟨mA,⟨ob,n,ne⟩,r,q,z,d⟩
end
structure Cls(K:W.Frag)(C:Addr):Prop where
 pg:W.plainGet K C Str.empty=true
 hd:W.hasDictIn K C=true
 po:W.plainOver K C=true
 sa:W.findIn K (.ref C) "__setattr__"=some (some (.builtin "object.__setattr__"))
theorem Cls.get{K:W.Frag}{C:Addr}(c:Cls K C)(f:Str):W.plainGet K C f=true:=c.pg
section
variable {X:Cx}{pins:List (Addr×Obj)}{O:St}{H:Hp}{s:Shared}{A:Around}{E:Value->Shared->Prop}{Q:Value->Shared->Prop}{c:Value}{b:Bool}
inductive z63(K:W.Frag)(H:Hp):V->Value->Prop where | non:z63 K H .non (.type "NoneType") | bl (x:Bool):z63 K H (.bl x) (.type "bool") | int (i:Int):z63 K H (.int i) (.type "int") | str (x:Str):z63 K H (.str x) (.type "str") | flt (x:UInt64):z63 K H (.flt x) (.type "float") | lst {a:Addr}{xs:List V}(e:H a=some (.lst xs)):z63 K H (.ref a) (.type "list") | frz {a:Addr}{o:Obj}{xs:List V}(e:H a=some (.frz o (.lst xs))):z63 K H (.ref a) (.type "list") | tup {a:Addr}{xs:List V}(e:H a=some (.tup xs)):z63 K H (.ref a) (.type "tuple") | dK {a:Addr}{kvs:List (Key×V)}(e:H a=some (.dK kvs)):z63 K H (.ref a) (.type "dict") | dT {a:Addr}{kvs:List (List Key×V)}(e:H a=some (.dT kvs)):z63 K H (.ref a) (.type "dict") | ins {a C dx:Addr}{fs:List (Str×V)}(e:H a=some (.ins C dx fs))(cl:Cls K C)(ha:W.findIn K (.ref C) "__class__"=some (some (.builtin "object.__class__"))) (hn:W.specialIn K (.builtin "object.__class__") "__get__"=some (some (.builtin "getset_descriptor.__get__")))(htk:W.takesIn K (.builtin "object.__class__")=some true) (hm:W.mroIn K C (.type "object")=some true):z63 K H (.ref a) (.ref C)
theorem z7R {x:V} {u t:Value} (I:Inv X pins O H s) (rx:yq x u) (ty:z63 X.K H x t) (e:W.kitOne X.K t c=some b) (h:∀tk,Q (.bool b) {s with toks:=tk}): wpAny (model X.prog X.w) A (call (.builtin "isinstance") [u,c]) Q E s:=by cases ty with
 | non=>cases (show u=Value.none from rx);exact _bz W.kitx_none I.kIn True.intro e (λz=>nomatch z) h | bl y=>cases (show u=Value.bool y from rx);exact _bz W.kitx_bool I.kIn True.intro e (λz=>nomatch z) h | int i=>obtain⟨t,q⟩:=(show ∃t,u=Value.int i t from rx);cases q;exact _bz W.kitx_int I.kIn True.intro e (λz=>nomatch z) h | str y=>obtain⟨t,q⟩:=(show ∃t,u=Value.str y t from rx);cases q;exact _bz W.kitx_str I.kIn True.intro e (λz=>nomatch z) h | flt y=>obtain⟨t,q⟩:=(show ∃t,u=Value.float y t from rx);cases q;exact _bz W.kitx_float I.kIn True.intro e (λz=>nomatch z) h | @lst a xs ea=>
  cases (show u=Value.ref a from rx);obtain⟨_,_,n,_,h1⟩:=(show yN X.prog X.w H s.heap a (.lst xs) from I.hok a _ ea);exact _bz W.kitx_list I.kIn ⟨_,h1,rfl⟩ e (λz=>nomatch z) h | @frz a ob xs ea=>
  cases (show u=Value.ref a from rx);obtain⟨_,_,_,n,_,h1⟩:=(show yN X.prog X.w H s.heap a (.frz ob (.lst xs)) from I.hok a _ ea);exact _bz W.kitx_list I.kIn ⟨_,h1,rfl⟩ e (λz=>nomatch z) h | @tup a xs ea=>
  cases (show u=Value.ref a from rx);obtain⟨_,_,_,p⟩:=(show yN X.prog X.w H s.heap a (.tup xs) from I.hok a _ ea);obtain⟨o,h1,h2,_⟩:=p;exact _bz W.kitx_tuple I.kIn ⟨o,h1,h2⟩ e (λz=>nomatch z) h | @dK a kvs ea=>
  cases (show u=Value.ref a from rx);obtain⟨_,_,vs,_,p⟩:=(show yN X.prog X.w H s.heap a (.dK kvs) from I.hok a _ ea);obtain⟨o,es,ep,h1,h2,_⟩:=p;exact _bz W.kitx_dict I.kIn ⟨o,h1,h2.1⟩ e (λz=>nomatch z) h | @dT a kvs ea=>
  cases (show u=Value.ref a from rx);obtain⟨_,_,xs,_,o,es,ep,h1,h2,_⟩:=(show yN X.prog X.w H s.heap a (.dT kvs) from I.hok a _ ea);exact _bz W.kitx_dict I.kIn ⟨o,h1,h2.1⟩ e (λz=>nomatch z) h | @ins a C dx fs ea cl ha hn htk hm=>
  cases (show u=Value.ref a from rx);obtain⟨mA,Oo,_⟩:=zck I.hok ea;obtain⟨od,J,_⟩:=Oo.look;exact _bz (W.kitx_own (cl.get _) cl.hd ha hn htk hm) I.kIn J e (λz=>nomatch z) h
end
structure z1v(k:Nat)(A:Around):Prop where
 hd:A.handled=none
 dp:A.depth+3*k+5<recursionLimit
 un:A.units+16*k+200<cLine
 gd:A.guards=some []
theorem z1v.mono{j k:Nat}{A:Around}(r:z1v k A)(h:j<=k):z1v j A:=⟨r.hd,by have:=r.dp;omega,by have:=r.un;omega,r.gd⟩
theorem z1v.deeper{k:Nat}{A:Around}(r:z1v (k+1) A)(env:Env):z1v k (A.deeper env):= ⟨r.hd,by have:=r.dp;show A.depth+1+3*k+5<_;omega,by have:=r.un;show A.units+3+16*k+200<_;omega,r.gd⟩
theorem z1v.depth{k:Nat}{A:Around}(r:z1v k A):A.depth<recursionLimit:=by have:=r.dp;omega
theorem z1v.units{k:Nat}{A:Around}(r:z1v k A):A.units+64<cLine:=by have:=r.un;omega
def zg0:TA:=λ_ H Q=>Q [] H
def ze3(ta:TE)(tr:TA):TA:=λO H Q=>ta O H λx H1=>tr O H1 λxs H2=>Q (x::xs) H2
section
variable {X:Cx}{e:Expr}{es:List Expr}{te:TE}{t:TA}{pos:Pos}
theorem jy:PA X [] zg0:=λ_ _ _ _ H Q I h=>_b2 ⟨[],H,I,.nil,h⟩
theorem qj(ha:PE X e te)(hr:PA X es t)(hs:starEach (e::es) X.env=(false,eval e X.env)::starEach es X.env:=by rfl):PA X (e::es) (ze3 te t):=by
 intro pos pins s O H Q I h;rw[hs];show wpAny _ _ (spliced ((false,eval e X.env)::backTo pos (starEach es X.env))) _ _ s;refine _bc (thn (ha pins s O H _ I h) λu s1 ⟨x,H1,I1,r1,q1⟩=>?_);exact thn (hr pos pins s1 O H1 _ I1 q1) λus s2 ⟨xs,H2,I2,r2,q2⟩=>⟨x::xs,H2,I2,.cons r1 r2,q2⟩
def zhv(t:TA):TE:=λO H Q=>t O H λxs H1=>xs.length<=sizeLine/\∀p,H1 p=none->Q (.ref p) (upd H1 p (.tup xs))
def zfK(t:TA):TE:=λO H Q=>t O H λxs H1=>xs.length<=sizeLine/\∀p,H1 p=none->Q (.ref p) (upd H1 p (.lst xs))
theorem zdM{x1}(h:PA X es t):PE X (.Tuple es x1 pos) (zhv t):=by
 intro pins s O H Q I hq;refine wpAny_Tuple_spliced (thn (h pos pins s O H _ I hq) λus s1 ⟨xs,H1,I1,r,z,q⟩=>⟨by rw[<- r.length];exact z,?_⟩);have hf:H1 s1.heap.objs.size=none:=I1.hok.fresh (_f _);refine⟨.ref s1.heap.objs.size,upd H1 s1.heap.objs.size (.tup xs),I1.laid (t':=s1.toks) (λb u e=>_e _ e) (_f _) ?_,rfl,q _ hf⟩;exact⟨z,us,r,⟨_,_t _ rfl,rfl,rfl,_,rfl⟩⟩
theorem z22(h:PA X es t):PE X (.List es pos) (zfK t):=by
 intro pins s O H Q I hq;refine wpAny_List_spliced (thn (h pos pins s O H _ I hq) λus s1 ⟨xs,H1,I1,r,z,q⟩=>⟨by rw[<- r.length];exact z,?_⟩);have hf:H1 s1.heap.objs.size=none:=I1.hok.fresh (_f _);refine⟨.ref s1.heap.objs.size,upd H1 s1.heap.objs.size (.lst xs),I1.laid (t':=s1.toks) (λb u e=>_e _ e) (_f _) ?_,rfl,q _ hf⟩;exact⟨z,us,0,r,_t _ rfl⟩
end
abbrev Sp:=List V->Hp->VK->XK->Prop
abbrev CXT:=List Env->Hp->Shared->XK->Value->Shared->Prop
structure zfr(P:Program)(w:World)(K:W.Frag)(mg:Str->Option Value)(base:Heap)(A:Around)(outer:List Env)(s:Shared)(H:Hp):Prop where
 frames:A.frames=some outer
 mod:Mod K mg base
 bs:∀b o,base.get? b=some o->s.heap.get? b=some o/\H b=none
 bsz:base.objs.size<=s.heap.objs.size
 funs:s.heap.FunFrames base outer
 frf:∀b∈frs outer,H b=none
 hok:HOk P w H s.heap
 bare:AllBare s.gens
def CE(outer:List Env)(P:Program)(w:World)(H:Hp)(s:Shared)(Q:VK)(u:Value)(s':Shared):Prop:= ∃v H',s'.os=s.os/\AllBare s'.gens/\Un (frs outer) [] H H' s.heap s'.heap/\HOk P w H' s'.heap/\yq v u/\Q v H'
def CR(CX:CXT)(outer:List Env)(P:Program)(w:World)(H:Hp)(s:Shared)(Q:VK)(E:XK)(r:Result)(s':Shared):Prop:= match r with
 | .ok (.ret u)=>CE outer P w H s Q u s' | .ok _=>False | .error e=>CX outer H s E e s'
structure z3h(P:Program)(w:World)(K:W.Frag)(mg:Str->Option Value)(base:Heap)(CX:CXT)(k:Nat)(f:Addr)(fd:FuncData)(ps:List Str)(sp:Sp):Prop where
 len:∀vs H Q E,sp vs H Q E->vs.length=ps.length
 run:∀(A:Around)(outer:List Env)(s:Shared)(H:Hp)(args:Args)(us:List Value)(vs:List V)(Q:VK)(E:XK),z1v k A->zfr P w K mg base A outer s H->BindsTo s fd args (ps.zip us)->yF vs us->sp vs H Q E-> codeAny (model P w) A (.call (.ref f) args) (CR CX outer P w H s Q E) s
theorem z3h.mono{P:Program}{w:World}{K:W.Frag}{mg:Str->Option Value}{base:Heap}{CX:CXT}{j k:Nat}{f:Addr}{fd:FuncData}{ps:List Str}{sp:Sp}(F:z3h P w K mg base CX j f fd ps sp)(h:j<=k): z3h P w K mg base CX k f fd ps sp:=⟨F.len,λA outer s H args us vs Q E hr=>F.run A outer s H args us vs Q E (hr.mono h)⟩
theorem z3h.imp{P:Program}{w:World}{K:W.Frag}{mg:Str->Option Value}{base:Heap}{CX:CXT}{k:Nat}{f:Addr}{fd:FuncData}{ps:List Str}{sp sp':Sp}(F:z3h P w K mg base CX k f fd ps sp) (h:∀vs H Q E,sp' vs H Q E->sp vs H Q E):z3h P w K mg base CX k f fd ps sp':= ⟨λvs H Q E q=>F.len vs H Q E (h _ _ _ _ q),λA outer s H args us vs Q E hr he hb hv hs=>F.run A outer s H args us vs Q E hr he hb hv (h _ _ _ _ hs)⟩
section
variable {X:Cx}{pins:List (Addr×Obj)}{O:St}{H:Hp}{s s':Shared}
theorem Inv.env0(I:Inv X pins O H s):zfr X.prog X.w X.K X.mg X.base X.A X.stack s H:= ⟨I.ok.frames,I.ok.mod,I.bs,_M I.ok.bsz I.sz,I.stack,I.stkFree,I.hok,I.bare⟩
theorem Inv.after {Q:VK} {u:Value} (I:Inv X pins O H s) (h:CE X.stack X.prog X.w H s Q u s'):EP X pins O Q u s':=by
 obtain⟨v,H',os,bare,un,hok,r,q⟩:=h;obtain⟨hh,g,d,t,os'⟩:=s';obtain rfl:os'=s.os:=os;exact⟨v,H',I.call (h':=hh) (g':=g) (d':=d) (t':=t) (ch:=[]) un hok bare (λb z=>absurd z (by simp)),r,q⟩
end
def zfS(sp:Sp)(dvs:List V)(E:XK)(t:TA):TE:=λO H Q=>t O H λvs H1=>sp (vs++dvs) H1 Q E
def Binds(K:W.Frag)(fd:FuncData)(ps:List Str)(ds:List Value):Prop:= ∀(s:Shared)(us:List Value),K.In s.heap->(us++ds).length=ps.length->BindsTo s fd ⟨us,[]⟩ (ps.zip (us++ds))
theorem Binds.all{K:W.Frag}{fd:FuncData}{ps:List Str}(h:∀us:List Value,us.length=ps.length->bindArgs fd ⟨us,[]⟩=pure (ps.zip us)):Binds K fd ps []:=λs us _ hl=>by
 rw[List.append_nil]at hl ⊢;exact .of_eq (h us hl)
def Passes(CX:CXT)(X:Cx)(E:XK):Prop:=∀(pins:List (Addr×Obj))(O:St)(H:Hp)(s:Shared)(e:Value)(s':Shared),Inv X pins O H s->CX X.stack H s E e s'->X.xe e s'
section
variable {X:Cx}{CX:CXT}{k:Nat}{f C:Addr}{fd:FuncData}{ps:List Str}{sp:Sp}{dvs:List V}{ds:List Value}{E:XK}{x m:Str}{p pos apos:Pos}{e o:Expr}{es:List Expr}{ta:TE}{t:TA}
theorem zfn{pins:List (Addr×Obj)}{O:St}{H:Hp}{s:Shared}{Q:VK}{us:List Value}{vs:List V}(F:z3h X.prog X.w X.K X.mg X.base CX k f fd ps sp)(hr:z1v k X.A)(hb:Binds X.K fd ps ds)(hd:yF dvs ds)(hx:Passes CX X E) (I:Inv X pins O H s)(r:yF vs us)(h:sp (vs++dvs) H Q E):wpAny (model X.prog X.w) X.A (call (.ref f) us) (EP X pins O Q) X.xe s:=by
 have r2:yF (vs++dvs) (us++ds):=r.append hd;have hl:(us++ds).length=ps.length:=by rw[<- r2.length];exact F.len _ _ _ _ h
 refine wpAny_call (_dw (F.run X.A X.stack s H ⟨us,[]⟩ (us++ds) (vs++dvs) Q E hr I.env0 (hb s us I.kIn hl) r2 h) λr s' hq=>?_);cases r with
 | error e=>exact hx pins O H s e s' I hq | ok fl=> cases fl with
  | ret u=>exact I.after hq | next=>exact False.elim hq | brk=>exact False.elim hq | cont=>exact False.elim hq
theorem zbW (F:z3h X.prog X.w X.K X.mg X.base CX k f fd ps sp) (hr:z1v k X.A) (hg:Gl X x) (hm:X.mg x=some (.ref f)) (hk:W.keepIn X.K (.ref f)=true) (hb:Binds X.K fd ps ds) (hd:yF dvs ds) (hx:Passes CX X E) (ha:PA X (e::es) t) (hdb:(x==("__debug__":Str))=false:=by decide) (he:starEach (e::es) X.env=(false,eval e X.env)::starEach es X.env:=by rfl) (hpl:(backTo pos (starEach es X.env)).any (·.1)=false:=by rfl): PE X (.Call (.Name x p) (e::es) [] pos) (zfS sp dvs E t):=by
 intro pins s O H Q I h;refine _bu (z8Y I hg hm ?_ hdb);refine W.callWith_K (h₀:=X.base) I.ok.mod.kin hk (thn (ha pos pins s O H _ I h) λus s1 ⟨vs,H1,I1,r,q⟩=>⟨I1.kIn,?_⟩) he hpl;exact zfn F hr hb hd hx I1 r q
end
structure zG(N P:List Str)(sc:Scope):Prop where
 kind:sc.kind=.function
 co:sc.isCoroutine=false
 gen:sc.isGenerator=false
 nd:N.Nodup
 pre:N.take P.length=P
 par:∀x∈P,sc.names.lookup x=some .local\/sc.names.lookup x=some .cell
 nofree:∀y∈sc.names,y.2≠.free
theorem z3Y{kindOf:Str->Option NameKind}{x:Str}:∀{binds:List (Str×Value)}{m:Str->Option Value},(∀v,(x,v)∉binds)->bindL kindOf binds m x=m x
 | [],_,_=>rfl | (n,v)::r,m,h=>by
  unfold bindL;rw[z3Y λw hw=>h w (_C _ hw)];split
  ·have:x≠n:=by rintro rfl;exact h v _U
   simp[this]
  ·rfl
theorem z4x{kindOf:Str->Option NameKind}{x:Str}:∀{binds:List (Str×Value)}{m:Str->Option Value},(∀v,(x,v)∉binds)->bindC kindOf binds m x=m x
 | [],_,_=>rfl | (n,v)::r,m,h=>by
  unfold bindC;rw[z4x λw hw=>h w (_C _ hw)];split;·rfl
  ·have:x≠n:=by rintro rfl;exact h v _U
   simp[this]
theorem z3E{kindOf:Str->Option NameKind}{x:Str}{v:Value}:∀{P:List Str}{vs:List Value}{i:Nat}{m:Str->Option Value},P.Nodup->P[i]? = some x->vs[i]? = some v->kindOf x=some .local-> bindL kindOf (P.zip vs) m x=some v
 | [],_,_,_,_,h,_,_=>by simp at h | _::_,[],_,_,_,_,h,_=>by simp at h | p::P,w::vs,0,m,nd,h1,h2,hk=>by
  simp at h1 h2;subst h1;subst h2;show bindL kindOf ((p,w)::P.zip vs) m p=_;unfold bindL;rw[z3Y λv hv=>(_a4.mp nd).1 (_bP hv).1,_g hk];simp | p::P,w::vs,i+1,m,nd,h1,h2,hk=>by
  show bindL kindOf ((p,w)::P.zip vs) m x=_;unfold bindL;exact z3E (i:=i) (_a4.mp nd).2 (by simpa using h1) (by simpa using h2) hk
theorem z4t{kindOf:Str->Option NameKind}{x:Str}{v:Value}:∀{P:List Str}{vs:List Value}{i:Nat}{m:Str->Option Value},P.Nodup->P[i]? = some x->vs[i]? = some v->kindOf x≠some .local-> bindC kindOf (P.zip vs) m x=some v
 | [],_,_,_,_,h,_,_=>by simp at h | _::_,[],_,_,_,_,h,_=>by simp at h | p::P,w::vs,0,m,nd,h1,h2,hk=>by
  simp at h1 h2;subst h1;subst h2;show bindC kindOf ((p,w)::P.zip vs) m p=_;unfold bindC;rw[z4x λv hv=>(_a4.mp nd).1 (_bP hv).1,_j hk];simp | p::P,w::vs,i+1,m,nd,h1,h2,hk=>by
  show bindC kindOf ((p,w)::P.zip vs) m x=_;unfold bindC;exact z4t (i:=i) (_a4.mp nd).2 (by simpa using h1) (by simpa using h2) hk
noncomputable def start(N:List Str)(vs:List V):St:=vs.map some++List.replicate (N.length-vs.length) none
noncomputable def z95(CX:CXT)(P:Program)(w:World)(K:W.Frag)(mg:Str->Option Value)(base:Heap)(N:List Str)(qual:Str)(scope:Scope)(f:Addr)(cd:Value)(A:Around)(outer:List Env)(s:Shared)(H:Hp)(E:XK):Cx where
 prog:=P;w:=w;K:=K;mg:=mg;base:=base;A:=A.deeper (envOfC qual scope s.heap.objs.size f cd);N:=N;s₀:=s;H₀:=H;env:=envOfC qual scope s.heap.objs.size f cd;outer:=outer;stack:=envOfC qual scope s.heap.objs.size f cd::outer;ex:=[];calm:=A.handled.isNone;fn:=λ_=>true;pn:=[];xe:=λe s'=>wpAny (model P w) (A.deeper (envOfC qual scope s.heap.objs.size f cd)) (leaving (envOfC qual scope s.heap.objs.size f cd) e) (λ_ s''=>CX outer H s E e s'') (λe' s''=>CX outer H s E e' s'') s'
theorem z0l{sc:Scope}{n:Nat}{x:Str}(h:sc.names.lookup x=some .cell):∃c,(cellsFrom n sc.names []).lookup x=some c:=by
 have q:=W.cellsFrom_some sc.names n [] (.inl h);exact Option.isSome_iff_exists.mp q
theorem z84{CX:CXT}{P:Program}{w:World}{K:W.Frag}{mg:Str->Option Value}{base:Heap}{N ps:List Str}{qual:Str}{scope:Scope}{f:Addr}{cd:Value}{A:Around}{outer:List Env}{s s1:Shared}{H:Hp}{E:XK}{us:List Value}{vs:List V} (S:zG N ps scope)(e0:zfr P w K mg base A outer s H)(hl:vs.length=ps.length)(r:yF vs us) (x:InCallC s s.heap.objs.size (bindL (envOfC qual scope s.heap.objs.size f cd).kindOf (ps.zip us) λ_=>none) (cellsFrom (s.heap.objs.size+1) scope.names []) (bindC (envOfC qual scope s.heap.objs.size f cd).kindOf (ps.zip us) λ_=>none) s1): Inv (z95 CX P w K mg base N qual scope f cd A outer s H E) [] (start N vs) H s1:=by
 have hpl:ps.length<=N.length:=by have:=_ba List.length S.pre;rw[_ae]at this;omega
 obtain⟨h1,tk,rfl,hk⟩:=x.done;have noA:∀b:Addr,b∉(z95 CX P w K mg base N qual scope f cd A outer s H E).ex:=λb z=>absurd (show b∈([]:List Addr) from z) (by simp);refine⟨⟨e0.mod,S.kind,rfl,rfl,_f _,λy z c h1 h2=>?_,λy hy=>?_,λy c _ h=>?_,λh=>Option.isNone_iff_eq_none.mp h,Around.frames_deeper e0.frames,.inr ⟨rfl,rfl⟩,λb z=>absurd z (noA b),e0.bs,e0.bsz,λb _ _=>noA b,λb z=>absurd z (noA b),e0.funs,e0.frf⟩, rfl,e0.bare,Un.kept hk,⟨_,x.toInCall.ns,λi y v h1 h2 h3=>?_⟩,λy c h=>⟨_,x.cell y c h⟩,e0.hok.fresh (_f _),λy c h=>?_,λp hp=>absurd (show p∈([]:List (Addr×Obj)) from hp) (by simp),e0.hok.kept hk,?_⟩;·exact name_of_addr x.apart (_ai h1) (_ai h2)
 ·have hy:scope.names.lookup y=some .cell\/scope.names.lookup y=some .free:=hy;rcases hy with hy | hy;·exact z0l hy
  ·exact absurd rfl (S.nofree _ (_ai hy))
 ·exact _az (x.above y c (_ai h))
 ·have hi:i<vs.length:=by
   unfold start at h2;by_cases hi:i<vs.length;·exact hi
   ·rw[_Q (by simpa using hi)]at h2;rw[List.getElem?_replicate]at h2;split at h2<;>cases h2
  have ha:vs[i]? = some v:=by
   unfold start at h2;rw[_u (by simpa using hi),_R]at h2;cases e:vs[i]? with
   | none=>rw[e]at h2;cases h2 | some a=>rw[e]at h2;cases h2;rfl
  obtain⟨u,hu,rv⟩:=r.get ha;have hp:ps[i]? = some y:=by rw[<- S.pre,_aE (by omega)];exact h1
  have ndP:ps.Nodup:=by rw[<- S.pre];exact S.nd.sublist (_db _ _)
  refine⟨u,rv,?_⟩;rcases S.par y (_d hp) with k | k;·exact .inl ⟨k,z3E ndP hp hu k⟩
  ·obtain⟨c,e⟩:=z0l (n:=s.heap.objs.size+1) k;refine .inr ⟨.inl k,c,e,?_⟩;have q:=x.cell y c e;rw[z4t ndP hp hu (by show scope.names.lookup y≠_;rw[k];decide)]at q;exact q
 ·exact e0.hok.fresh (_az (x.above y c (_ai h)))
 ·unfold start;show _=N.length;rw[_H,_o,_ch];omega
theorem zfE {CX:CXT} {P:Program} {w:World} {K:W.Frag} {mg:Str->Option Value} {base:Heap} {k:Nat} {f:Addr} {name qual:Str} {params:Arguments} {body:List Stmt} {scope:Scope} {dV kV doc pm cdv ct oc:Value} {an od:Option Addr} {osl:Array (Option Value)} {N ps:List Str} {sp:Sp} (lk:K.lookup f=some ⟨oc,od,.func (W.fnOf name qual params body scope dV kV doc pm an cdv ct),osl⟩) (hcd:W.codeIn K cdv qual=true) (S:zG N ps scope) (len:∀vs H Q E,sp vs H Q E->vs.length=ps.length) (hbody:∀(A:Around) (outer:List Env) (s:Shared) (H:Hp) (vs:List V) (Q:VK) (E:XK),z1v k (A.deeper (envOfC qual scope s.heap.objs.size f cdv))->sp vs H Q E-> ∃t,PSs (z95 CX P w K mg base N qual scope f cdv A outer s H E) body t/\t {nx:=λ_ H'=>Q .non H',rt:=Q} (start N vs) H): z3h P w K mg base CX (k+1) f (W.fnOf name qual params body scope dV kV doc pm an cdv ct) ps sp:=by
 refine⟨len,λA outer s H args us vs Q E hr e0 hb r hsp=>?_⟩;have hl:=len _ _ _ _ hsp;have KX:K.In s.heap:=e0.mod.kin.keeps λb o e=>(e0.bs b o e).1;have lim:s.heap.NoLimit:=e0.mod.nolimit.keeps λb o e=>(e0.bs b o e).1;have hkind:∀y∈ps.zip us,scope.names.lookup y.1=some .local\/(scope.names.lookup y.1=some .cell/\((cellsFrom (s.heap.objs.size+1) scope.names []).lookup y.1).isSome=true):=λ⟨n,v⟩ hy=>by
  rcases S.par n (_bP hy).1 with q | q;·exact .inl q
  ·exact .inr ⟨q,W.cellsFrom_some _ _ _ (.inl q)⟩
 refine codeAny_call_function hr.depth (KX _ _ lk) rfl S.co S.gen rfl (W.codeRec_of KX hcd) (hb _ _ _ _ ?_);refine wpAny_newFunctionEnv_cells S.kind hkind λenv he s1 x=>?_;subst he;refine⟨lim.keeps x.toInCall.keep,codeAny_func ?_⟩;obtain⟨t,ht,hq⟩:=hbody A outer s H vs Q E (hr.deeper _) hsp;have I:Inv (z95 CX P w K mg base N qual scope f cdv A outer s H E) [] (start N vs) H s1:=z84 S e0 hl r x;refine _z (ht [] s1 (start N vs) H _ I hq) (λfl s' hs=>?_) λe s' hs=>hs;have fin:∀{O':St} {H':Hp} {v:V} {u:Value},Inv (z95 CX P w K mg base N qual scope f cdv A outer s H E) [] O' H' s'->yq v u->Q v H'->CE outer P w H s Q u s':= λ{O' H' v u} J rv q=>⟨v,H',J.os,J.bare,J.base,J.hok,rv,q⟩;cases fl with
 | ret u=>
  obtain⟨v,O',H',J,rv,q⟩:=hs;exact fin J rv q | next=>
  obtain⟨O',H',J,q⟩:=hs;exact fin (v:=V.non) (u:=Value.none) J rfl q | brk=>
  obtain⟨_,_,_,q⟩:=hs;exact False.elim q | cont=>
  obtain⟨_,_,_,q⟩:=hs;exact False.elim q
section
variable {X:Cx}{x:Str}{p pos:Pos}{e:Expr}{es:List Expr}{t:TA}{id T:String}{r:List V->Hp->VK->Prop}
def tCB(r:List V->Hp->VK->Prop)(t:TA):TE:=λO H Q=>t O H λvs H1=>r vs H1 Q
theorem z5X (hc:xG X (.builtin id) r) (hg:Gl X x) (hm:X.mg x=none) (hv:bootBuiltins x=some (.builtin id)) (ha:PA X (e::es) t) (hn:x≠"__name__":=by decide) (hdb:(x==("__debug__":Str))=false:=by decide) (he:starEach (e::es) X.env=(false,eval e X.env)::starEach es X.env:=by rfl) (hpl:(backTo pos (starEach es X.env)).any (·.1)=false:=by rfl):PE X (.Call (.Name x p) (e::es) [] pos) (tCB r t):=by
 intro pins s O H Q I h;refine _bu (z18 I hg hm hv ?_ hn hdb);exact PyProof.Rows.callWith_builtin1 (thn (ha pos pins s O H _ I h) λus s1 ⟨vs,H1,I1,r1,q1⟩=>hc pins s1 O H1 vs us Q I1 r1 q1) he hpl
theorem z8D (hc:xG X (.type T) r) (hg:Gl X x) (hm:X.mg x=none) (hv:bootBuiltins x=some (.type T)) (ha:PA X (e::es) t) (hn:x≠"__name__":=by decide) (hdb:(x==("__debug__":Str))=false:=by decide) (he:starEach (e::es) X.env=(false,eval e X.env)::starEach es X.env:=by rfl) (hpl:(backTo pos (starEach es X.env)).any (·.1)=false:=by rfl):PE X (.Call (.Name x p) (e::es) [] pos) (tCB r t):=by
 intro pins s O H Q I h;refine _bu (z18 I hg hm hv ?_ hn hdb);exact _a7 (thn (ha pos pins s O H _ I h) λus s1 ⟨vs,H1,I1,r1,q1⟩=>hc pins s1 O H1 vs us Q I1 r1 q1) he hpl
end
end L2
namespace HT
noncomputable def lexLt:List Int->List Int->Bool
 | [],[]=>false | [],_::_=>true | _::_,[]=>false | x::xs,y::ys=>if x=y then lexLt xs ys else decide (x<y)
theorem z6s (x y:Int) (xs ys:List Int):lexLt (x::xs) (y::ys)=if x=y then lexLt xs ys else decide (x<y):=rfl
theorem z2t:lexLt [] []=false:=rfl
theorem z1x (y:Int) (ys:List Int):lexLt [] (y::ys)=true:=rfl
theorem z1C(x:Int)(xs:List Int):lexLt (x::xs) []=false:=rfl
theorem z9N(A:Around)(s:Shared)(a:Int)(t:Tok)(c:Int)(u:Tok):∃e,SeqAt.EqAt A s (.int a t) (.int c u) e/\(e=true ↔ a=c):= ⟨(a==c),SeqAt.EqAt.int_int a t c u,by simp⟩
theorem z9d(A:Around)(s:Shared)(a:Int)(t:Tok)(c:Int)(u:Tok)(prog:Program)(w:World)(E:Value->Shared->Prop)(Q:Value->Shared->Prop)(h:Q (.bool (decide (a<c))) s): wpAny (model prog w) A (richCompare .Lt (.int a t) (.int c u)) Q E s:= (_cH h:wpAny (model prog w) A (compareOp .Lt (.int a t) (.int c u)) Q E s)
section
open PySem.SeqAt
open PySem.AutoSeq1 (wpAny_loadPart')
open PySem.MeetsSeq PySem.MeetsSeq2 PySem.MeetsSeq3
theorem z33(l b:Addr)(items items2:Array Value)(n n2:Nat)(dd dd2:Option Addr)(sl sl2:Array (Option Value))(ns ms:List Int)(hi:IntsAre items.toList ns)(hj:IntsAre items2.toList ms): Meets (Builtin.«tuple.__lt__» ⟨[.ref l,.ref b],[]⟩) (λ_ R s=>s.heap.get? l=some {cls:=.type "tuple",dict:=dd,data:=.seq items n,slots:=sl}/\s.heap.get? b=some {cls:=.type "tuple",dict:=dd2,data:=.seq items2 n2,slots:=sl2}/\ R (.ok (.ret (.bool (lexLt ns ms)))) s):= .of_wp λprog w A R s h=>by
  obtain⟨hp,g,d,tk,os⟩:=s;obtain⟨hl,hb,h⟩:=h;have f2:=AutoSeq1.sub_tuple_tuple;have z1:items.size=ns.length:=by rw[<- hi.length];simp
  have z2:items2.size=ms.length:=by rw[<- hj.length];simp
  wp_walk using _aR hl,_aR hb,_do _ (λz0h b s'=>b.1=none/\s'=⟨hp,g,d,tk,os⟩/\∃(vs ws:List Value)(ns' ms':List Int),z0h=vs.zip ws/\ IntsAre vs ns'/\IntsAre ws ms'/\ns'.length+items2.size=ms'.length+items.size/\R (.ok (.ret (.bool (lexLt ns' ms')))) ⟨hp,g,d,tk,os⟩) _;case turn=>
   rintro⟨y,x⟩ z0h b s' ⟨hb',rfl,vs,ws,ns',ms',hz,hvi,hwi,hlen,hR⟩;cases hvi with
   | nil=>rw[List.zip_nil_left]at hz;cases hz | cons a t hvi'=> cases hwi with
    | nil=>rw[List.zip_nil_right]at hz;cases hz | cons c u hwi'=>
     rw[_bv]at hz;injection hz with hyx hrest;injection hyx with hy hx;subst hy hx;rw[z6s]at hR;simp only[_s]at hlen;obtain⟨e,he,hiff⟩:=z9N A.in1 ⟨hp,g,d,tk,os⟩ a t c u;refine _a (he prog w _ _ ?_);cases e with
     | true=>
      rw[_g (hiff.mp rfl)]at hR;wp_walk;exact⟨rfl,rfl,_,_,_,_,hrest,hvi',hwi',by omega,hR⟩ | false=>
      rw[_j (λq=>absurd (hiff.mpr q) _bb)]at hR;have hri:=z9d A.in1 ⟨hp,g,d,tk,os⟩ a t c u prog w;wp_walk using hri;exact⟨_,rfl,by simpa using hR⟩
  case fin=>
   rintro⟨b1,b2⟩ s' ⟨hb',rfl,vs,ws,ns',ms',hz,hvi,hwi,hlen,hR⟩;simp only at hb';subst hb';have hv:lexLt ns' ms'=decide (items.size<items2.size):=by cases hvi with
    | nil=> cases hwi with
     | nil=>
      simp only[_F]at hlen;rw[z2t];exact (_O (by omega)).symm | cons c u hw=>
      simp only[_F,_s]at hlen;rw[z1x];exact (_aa (by omega)).symm
    | cons a t hv=> cases hwi with
     | nil=>
      simp only[_F,_s]at hlen;rw[z1C];exact (_O (by omega)).symm | cons c u hw=>
      rw[_bv]at hz;cases hz
   rw[hv]at hR;wp_walk;exact⟨_,rfl,by simpa[Builtin.Tuple.tupleCompareSizes] using hR⟩
  case h=> exact⟨rfl,rfl,items.toList,items2.toList,ns,ms,rfl,hi,hj,by omega,h⟩
end
section
variable {prog:Program}{w:World}{A:Around}{E:Value->Shared->Prop}{s:Shared}
theorem z6I{l b:Addr}{items items2:Array Value}{ns ms:List Int}{Q:Value->Shared->Prop}(hl:IsTup s.heap l items)(hb:IsTup s.heap b items2)(hi:IntsAre items.toList ns)(hj:IntsAre items2.toList ms) (hu:A.units<cLine)(h:Q (.bool (lexLt ns ms)) s):wpAny (model prog w) A (compareOp .Lt (.ref l) (.ref b)) Q E s:=by
 obtain⟨⟨cls,dd,data,sl⟩,ho,hc,n,hd⟩:=id hl;obtain⟨⟨cls2,dd2,data2,sl2⟩,ho2,hc2,n2,hd2⟩:=id hb;simp only at hc hd hc2 hd2;subst hc hd hc2 hd2;exact richCompare_meets_room (op:=.Lt) ⟨_,ho,rfl⟩ ⟨_,ho2,rfl⟩ _bg _b3 (_bV _ _) (z33 l b items items2 n n2 dd dd2 sl sl2 ns ms hi hj) ⟨ho,ho2,show Value.bool (lexLt ns ms)≠Value.notImplemented/\Q (.bool (lexLt ns ms)) s from⟨(λx=>nomatch x),h⟩⟩ hu
theorem zcB {t b:Addr} {vs ws:List Value} {Q:Value->Shared->Prop} (ht:IsTup s.heap t vs.toArray) (hb:IsTup s.heap b ws.toArray) (hv:vs≠[]) (h1:ws=[]->Q (.ref t) s) (h2:ws≠[]->Q (.ref s.heap.objs.size) {s with heap:=s.heap.push {cls:=.type "tuple",data:=.seq (vs++ws).toArray}}) (hsz:vs.length+ws.length<=sizeLine):wpAny (model prog w) A (binaryOp .Add (.ref t) (.ref b)) Q E s:=by
 obtain⟨⟨cls,dd,data,sl⟩,ho,hc,n,hd⟩:=id ht;obtain⟨⟨cls2,dd2,data2,sl2⟩,ho2,hc2,n2,hd2⟩:=id hb;simp only at hc hd hc2 hd2;subst hc hd hc2 hd2;have e:vs.toArray++ws.toArray=(vs++ws).toArray:=by simp
 by_cases hw:ws=[]
 ·exact concat_meets ⟨_,ho,rfl⟩ ⟨_,ho2,rfl⟩ _dp seq_tuple_add _b4 _bW (_bN _ _) (tuple_addW1 t b vs.toArray ws.toArray n n2 dd dd2 sl sl2 (by simpa using hv) (by simp[hw])) ⟨ho,ho2,h1 hw⟩
 ·refine concat_meets ⟨_,ho,rfl⟩ ⟨_,ho2,rfl⟩ _dp seq_tuple_add _b4 _bW (_bN _ _) (tuple_addW2 t b vs.toArray ws.toArray n n2 dd dd2 sl sl2 (by simpa using hv) (by simpa using hw) (by rw[_k,_k];exact hsz)) ⟨ho,ho2,?_⟩;rw[e];exact h2 hw
noncomputable def sIx(n d:Nat):Option Int->Nat
 | none=>d | some v=>if v<0 then (v+(n:Int)).toNat else min v.toNat n
theorem z2B(n d:Nat):sIx n d none=d:=rfl
theorem z7Y(n d k:Nat):sIx n d (some (k:Int))=min k n:=by
 show (if (k:Int)<0 then ((k:Int)+(n:Int)).toNat else min (k:Int).toNat n)=min k n;rw[_j (by omega),_b5]
theorem zek(n d:Nat)(hd:d<=n)(o:Option Int):sIx n d o<=n:=by cases o with
 | none=>exact hd | some v=>
  show (if v<0 then (v+(n:Int)).toNat else min v.toNat n)<=n;by_cases hv:v<0;·rw[_g hv];omega
  ·rw[_j hv];exact Nat.min_le_right _ _
theorem z7n(v:Int)(n d:Nat):(if v<0 then max (v+(n:Int)) 0 else min v (n:Int))=((sIx n d (some v):Nat):Int):=by
 show (if v<0 then max (v+(n:Int)) 0 else min v (n:Int))=(((if v<0 then (v+(n:Int)).toNat else min v.toNat n):Nat):Int);by_cases hv:v<0;·simp only[_g hv];omega
 ·simp only[_j hv];omega
theorem z6e(lo hi:Option Int)(n:Nat):Builtin.Slice.sliceAdjust lo hi 1 (n:Int)=(((sIx n 0 lo:Nat):Int),(sIx n n hi:Int)):=by
 have h1:¬ ((1:Int)<0):=by omega
 unfold Builtin.Slice.sliceAdjust;simp only[h1,_ab];refine _cW ?_ ?_;·cases lo with
  | none=>rfl | some v=>exact z7n v n 0
 ·cases hi with
  | none=>rfl | some v=>exact z7n v n n
theorem z6D (i j:Nat):Builtin.Slice.slicePlaces (i:Int) (j:Int) 1=j-i:=by
 unfold Builtin.Slice.slicePlaces;have h1:(1:Int) > 0:=by omega
 simp only[h1,_N,Int.ediv_one];split<;>omega
theorem z21{v:Value}{o:Option Int}{Q:Option Int->Shared->Prop}(p:IsPart v o)(h:Q o s):wpAny (model prog w) A (Builtin.Slice.slicePartIndex v) Q E s:=by cases p with
 | none=>exact _cX h | int i t=>exact slicePart_int h
theorem uO{sl:Addr}{vl vu:Value}{lo hi:Option Int}{n:Nat}{Q:Int×Int×Nat->Shared->Prop}(hs:s.heap.IsSliceOf sl vl vu .none)(pl:IsPart vl lo)(pu:IsPart vu hi) (h:Q (((sIx n 0 lo:Nat):Int),1,sIx n n hi-sIx n 0 lo) s):wpAny (model prog w) A (Builtin.Slice.sliceApplied (.ref sl) (pure (n:Int))) Q E s:=by
 obtain⟨os,hos,hcs,hds⟩:=id hs;unfold Builtin.Slice.sliceApplied Builtin.Slice.sliceFields;refine _a (_a (_am hos hds (x:=vl) rfl (_a (_am hos hds (x:=vu) rfl (_a (_am hos hds (x:=.none) rfl (_c ?_)))))));refine _a (_cX ?_);show wpAny _ _ (if ((1:Int)==0)=true then _ else _) _ _ s;rw[_j (by decide)];refine _a (z21 pl (_a (z21 pu (_a (_c ?_)))));show wpAny _ _ (match Builtin.Slice.sliceAdjust lo hi 1 (n:Int) with | (lo,hi)=>pure (lo,(1:Int),Builtin.Slice.slicePlaces lo hi 1)) _ _ s;rw[z6e lo hi n];show wpAny _ _ (pure (((sIx n 0 lo:Nat):Int),(1:Int),Builtin.Slice.slicePlaces ((sIx n 0 lo:Nat):Int) (sIx n n hi:Int) 1)) _ _ s;rw[z6D];exact _c h
theorem za4(xs:Array Value)(i k:Nat):((List.range k).filterMap λ(m:Nat)=>xs[((i:Int)+(m:Int)*1).toNat]?).toArray=((xs.toList.drop i).take k).toArray:=by
 have e:(λ(m:Nat)=>xs[((i:Int)+(m:Int)*1).toNat]?)=λm=>xs[i+m]? := by
  funext m;have:((i:Int)+(m:Int)*1).toNat=i+m:=by omega
  rw[this]
 rw[e];have:=pick_run xs i k;rw[List.filterMap_map]at this;have e2:((λx=>xs[x]?) ∘ λx=>i+x)=λm=>xs[i+m]? := rfl;rw[e2]at this;rw[this]
theorem kb {t sl:Addr} {items:Array Value} {vl vu:Value} {lo hi:Option Int} {Q:Value->Shared->Prop} (ht:IsTup s.heap t items) (hs:s.heap.IsSliceOf sl vl vu .none) (pl:IsPart vl lo) (pu:IsPart vu hi) (hw:¬ (sIx items.size 0 lo=0/\sIx items.size items.size hi=items.size)) (h:Q (.ref s.heap.objs.size) {s with heap:=s.heap.push {cls:=.type "tuple",data:=.seq ((items.toList.drop (sIx items.size 0 lo)).take (sIx items.size items.size hi-sIx items.size 0 lo)).toArray}}) (hsz:items.size<=sizeLine):wpAny (model prog w) A (getItem (.ref t) (.ref sl)) Q E s:=by
 have htake:sizeOk (.seq ((items.toList.drop (sIx items.size 0 lo)).take (sIx items.size items.size hi-sIx items.size 0 lo)).toArray):=by
  show ((items.toList.drop (sIx items.size 0 lo)).take (sIx items.size items.size hi-sIx items.size 0 lo)).toArray.size<=sizeLine;rw[_k,_ae,_bp,_V];omega
 have hj:sIx items.size items.size hi<=items.size:=zek _ _ (_f _) hi;obtain⟨os,hos,hcs,hds⟩:=id hs;have hTs:s.TypeIs (.ref sl) "slice":=⟨os,hos,hcs⟩;unfold getItem;try with_reducible refine _ay ?_
 first | refine _a (_c ?_) | skip
 refine _a (_dc ht.typeIs (by decide) ?_);refine _a (_ac (name:=Str.ofString "__getitem__") ht.typeIs _J (_af _J ht.typeIs _cI ?_ (_cY _ _)));show wpAny _ _ (Builtin.Tuple.tupleItemsOf (.ref t) >>= _) _ _ s;refine _a (tupleItemsOf_ ht ?_);refine _a (_cQ hTs ?_);rw[_g (by decide)];refine _a (uO hs pl pu ?_);have hno:¬ ((((sIx items.size 0 lo:Nat):Int)==0&&(1:Int)==1&&(sIx items.size items.size hi-sIx items.size 0 lo)==items.size)=true):=by
  intro q;rw[_p,_p]at q;have q1:((sIx items.size 0 lo:Nat):Int)=0:=eq_of_beq q.1.1;have q2:sIx items.size items.size hi-sIx items.size 0 lo=items.size:=eq_of_beq q.2;exact hw ⟨by omega,by omega⟩
 show wpAny _ _ (if (((sIx items.size 0 lo:Nat):Int)==0&&(1:Int)==1&&(sIx items.size items.size hi-sIx items.size 0 lo)==items.size)=true then _ else _) _ _ s;rw[_j hno,za4];first
  | exact _a (m:=Builtin.Tuple.tupleExact _) (_L (_c ⟨_,rfl,_c h⟩) htake) | exact _a (m:=Builtin.Tuple.tupleExact _) (_L (_a (_c (_c ⟨_,rfl,_c h⟩))) htake) | exact _a (_a (m:=Builtin.Tuple.tupleExact _) (_L (_c (_c ⟨_,rfl,_c h⟩)) htake)) | exact _a (_a (m:=Builtin.Tuple.tupleExact _) (_L (_c ⟨_,rfl,_c h⟩) htake))
end
end HT
namespace L2
abbrev TO:=St->Hp->(Option Int->Hp->Prop)->Prop
def PO(X:Cx)(e:Option Expr)(t:TO):Prop:= ∀(pins:List (Addr×Obj))(s:Shared)(O:St)(H:Hp)(Q:Option Int->Hp->Prop),Inv X pins O H s->t O H Q-> wpAny (model X.prog X.w) X.A (evalPart e X.env) (λu s'=>∃o H',Inv X pins O H' s'/\IsPart u o/\Q o H') X.xe s
def zcV:TO:=λ_ H Q=>Q none H
def zfV(t:TE):TO:=λO H Q=>t O H λx H1=>∃i,x=.int i/\Q (some i) H1
theorem intsAre_of{ns:List Int}:∀{us:List Value},yF (ns.map V.int) us->IntsAre us ns:=by induction ns with
 | nil=>intro us r;rw[List.map_nil]at r;cases r;exact .nil | cons n ns ih=>
  intro us r;rw[_l]at r;cases r with | cons r1 r2=>
   obtain⟨t,e⟩:=r1;subst e;exact .cons n t (ih r2)
section
variable {X:Cx}{e:Expr}{te:TE}{lo hi:Option Expr}{tl th:TO}{pos p2:Pos}
theorem zc4:PO X none zcV:=by
 intro pins s O H Q I h;rw[evalPart_none];exact _c ⟨none,H,I,.none,h⟩
theorem zcz(h:PE X e te):PO X (some e) (zfV te):=by
 intro pins s O H Q I hw;rw[evalPart_some];refine thn (h pins s O H _ I hw) λu s1 ⟨x,H1,I1,r1,q1⟩=>?_;obtain⟨i,rfl,q⟩:=q1;obtain⟨t,rfl⟩:=r1;exact⟨some i,H1,I1,.int i t,q⟩
def SlR(X:Cx)(r:V->Option Int->Option Int->Hp->VK->Prop):Prop:= ∀(pins:List (Addr×Obj))(s:Shared)(O:St)(H:Hp)(x:V)(v vl vu:Value)(lo hi:Option Int)(sl:Addr)(Q:VK),Inv X pins O H s->yq x v->s.heap.IsSliceOf sl vl vu .none->IsPart vl lo->IsPart vu hi->r x lo hi H Q-> ∃T id,typeLookup (.type T) "__getitem__"=pure (some (.builtin id))/\s.TypeIs v T/\wpAny (model X.prog X.w) X.A (getItem v (.ref sl)) (EP X pins O Q) X.xe s
theorem SlR.or{r r':V->Option Int->Option Int->Hp->VK->Prop}(h:SlR X r)(h':SlR X r'):SlR X (λx lo hi H Q=>r x lo hi H Q\/r' x lo hi H Q):=by
 intro pins s O H x v vl vu lo hi sl Q I rx hs pl pu q;rcases q with q | q;·exact h pins s O H x v vl vu lo hi sl Q I rx hs pl pu q
 ·exact h' pins s O H x v vl vu lo hi sl Q I rx hs pl pu q
def tSl(r:V->Option Int->Option Int->Hp->VK->Prop)(te:TE)(tl th:TO):TE:=λO H Q=>te O H λx H1=>tl O H1 λl H2=>th O H2 λu H3=>r x l u H3 Q
theorem z9P{r:V->Option Int->Option Int->Hp->VK->Prop}(hr:SlR X r)(he:PE X e te)(hl:PO X lo tl)(hu:PO X hi th):PE X (.Subscript e (.Slice lo hi none p2) pos) (tSl r te tl th):=by
 intro pins s O H Q I h;refine Subscript_ (thn (he pins s O H _ I h) λv s1 ⟨x,H1,I1,r1,q1⟩=>?_);refine wpAny_Slice (thn (hl pins s1 O H1 _ I1 q1) λvl s2 ⟨l,H2,I2,pl,q2⟩=>thn (hu pins s2 O H2 _ I2 q2) λvu s3 ⟨u,H3,I3,pu,q3⟩=>?_);rw[evalPart_none];refine _c ?_;have I4:Inv X pins O H3 {s3 with heap:=s3.heap.push {cls:=.type "slice",data:=.fields #[vl,vu,.none]}}:=I3.kept (t':=s3.toks) λb ob q=>_e _ q;obtain⟨T,id,hT,ht,hg⟩:=hr pins {s3 with heap:=s3.heap.push {cls:=.type "slice",data:=.fields #[vl,vu,.none]}} O H3 x v vl vu l u s3.heap.objs.size Q I4 r1 (Heap.IsSliceOf.new ..) pl pu q3;show wpAny (model X.prog X.w) X.A (subscriptTail e (.Slice lo hi none p2) v (.ref s3.heap.objs.size)) (EP X pins O Q) X.xe {s3 with heap:=s3.heap.push {cls:=.type "slice",data:=.fields #[vl,vu,.none]}};exact tail_any (ops:=[.ref s3.heap.objs.size,v]) ht hT hg (by with_unfolding_all rfl)
noncomputable def zaN(xs:List V)(lo hi:Option Int):List V:=(xs.drop (HT.sIx xs.length 0 lo)).take (HT.sIx xs.length xs.length hi-HT.sIx xs.length 0 lo)
theorem z0A(xs:List V)(lo hi:Option Int):(zaN xs lo hi).length<=xs.length:=by
 unfold zaN;rw[_ae,_bp];omega
def zhG(K:W.Frag):V->Option Int->Option Int->Hp->VK->Prop:=λx lo hi H Q=>∃a xs,x=.ref a/\SqT K H a xs/\ ¬ (HT.sIx xs.length 0 lo=0/\HT.sIx xs.length xs.length hi=xs.length)/\∀p,H p=none->Q (.ref p) (upd H p (.tup (zaN xs lo hi)))
theorem zec:SlR X (zhG X.K):=by
 intro pins s O H x v vl vu lo hi sl Q I rx hs pl pu h;obtain⟨a,xs,rfl,hx,hw,q⟩:=h;cases rx;obtain⟨its,r,ht,hz⟩:=I.tuple hx;have hlen:its.toArray.size=xs.length:=by rw[_k];exact r.length.symm
 refine⟨"tuple",_,_J.lookup,ht.typeIs,?_⟩;refine HT.kb ht hs pl pu (by rw[hlen];exact hw) ?_ (by rw[hlen];exact hz);rw[hlen];refine⟨.ref s.heap.objs.size,_,I.laid (t':=s.toks) (o:=.tup (zaN xs lo hi)) (λb ob q=>_e _ q) (_f _) ?_,rfl,q _ (I.hok.fresh (_f _))⟩;exact⟨_M (z0A xs lo hi) hz,_,(r.drop (HT.sIx xs.length 0 lo)).take (HT.sIx xs.length xs.length hi-HT.sIx xs.length 0 lo),z70.new _ _⟩
def zhA(K:W.Frag):R2:=λx y H Q=>∃a b ns ms,x=.ref a/\y=.ref b/\SqT K H a (ns.map V.int)/\SqT K H b (ms.map V.int)/\Q (.bl (HT.lexLt ns ms)) H
theorem zeH(hu:X.A.units<cLine):OpR X (compareOp .Lt) (zhA X.K):=by
 intro pins s O H x y v u Q I rx ry h;obtain⟨a,b,ns,ms,rfl,rfl,ha,hb,q⟩:=h;cases rx;cases ry;obtain⟨its,r1,p1,_⟩:=I.tuple ha;obtain⟨its2,r2,p2,_⟩:=I.tuple hb;have i1:IntsAre its.toArray.toList ns:=intsAre_of r1;have i2:IntsAre its2.toArray.toList ms:=intsAre_of r2;exact HT.z6I p1 p2 i1 i2 hu ⟨.bl (HT.lexLt ns ms),H,I,rfl,q⟩
def zfX(K:W.Frag):R2:=λx y H Q=>∃a b xs ys,x=.ref a/\y=.ref b/\SqT K H a xs/\SqT K H b ys/\xs≠[]/\xs.length+ys.length<=sizeLine/\ (ys=[]->Q (.ref a) H)/\(ys≠[]->∀p,H p=none->Q (.ref p) (upd H p (.tup (xs++ys))))
theorem yF.nil_iff{xs:List V}{us:List Value}(r:yF xs us):us=[] ↔ xs=[]:=by cases r with
 | nil=>simp | cons _ _=>simp
theorem zbZ:OpR X (binaryOp .Add) (zfX X.K):=by
 intro pins s O H x y v u Q I rx ry h;obtain⟨a,b,xs,ys,rfl,rfl,ha,hb,hx,hz,q1,q2⟩:=h;cases rx;cases ry;obtain⟨its,r1,p1,_⟩:=I.tuple ha;obtain⟨its2,r2,p2,_⟩:=I.tuple hb;refine HT.zcB p1 p2 (λz=>hx (r1.nil_iff.mp z)) (λz=>⟨.ref a,H,I,rfl,q1 (r2.nil_iff.mp z)⟩) (λz=>?_) (by rw[<- r1.length,<- r2.length];exact hz);refine⟨.ref s.heap.objs.size,_,I.laid (t':=s.toks) (o:=.tup (xs++ys)) (λb ob q=>_e _ q) (_f _) ?_,rfl,q2 (λw=>z (r2.nil_iff.mpr w)) _ (I.hok.fresh (_f _))⟩;exact⟨by rw[_H];exact hz,_,r1.append r2,z70.new _ _⟩
end
noncomputable def ixN(n:Nat)(i:Int):Option Nat:=if 0<=i then (if i<n then some i.toNat else none) else if -(n:Int)<=i then some (i+n).toNat else none
noncomputable def atI{α:Type}(xs:List α)(i:Int):Option α:=(ixN xs.length i).bind λj=>xs[j]?
theorem z7I{n:Nat}{i:Int}{j:Nat}(h:ixN n i=some j):seqIndex? i n=some j/\j<n/\-(n:Int)<=i/\i<n:=by
 unfold ixN at h;by_cases h0:0<=i
 ·rw[_g h0]at h;by_cases h1:i<n
  ·rw[_g h1]at h;have e:i.toNat=j:=_v h;exact⟨by rw[seqIndex_of h0 h1,e],by omega,by omega,h1⟩
  ·rw[_j h1]at h;cases h
 ·rw[_j h0]at h;by_cases h1:-(n:Int)<=i
  ·rw[_g h1]at h;have e:(i+n).toNat=j:=_v h;exact⟨by rw[seqIndex_neg (by omega) h1,e],by omega,h1,by omega⟩
  ·rw[_j h1]at h;cases h
theorem z7t{α:Type}{xs:List α}{i:Int}{v:α}(h:atI xs i=some v):∃j,seqIndex? i xs.length=some j/\xs[j]? = some v/\j<xs.length/\-(xs.length:Int)<=i/\i<xs.length:=by
 unfold atI at h;cases e:ixN xs.length i with
 | none=>rw[e]at h;cases h | some j=>
  rw[e]at h;obtain⟨h1,h2,h3,h4⟩:=z7I e;exact⟨j,h1,h,h2,h3,h4⟩
def z8k(b:Expr):Prop:=∀o i,subscripted b false o i=operate [o,i] (getItem o i)
def IxR(X:Cx)(r:R2):Prop:= ∀(value slice:Expr)(pins:List (Addr×Obj))(s:Shared)(O:St)(H:Hp)(x y:V)(v u:Value)(Q:VK),Inv X pins O H s->yq x v->yq y u->r x y H Q-> subscripted slice false v u=operate [v,u] (getItem v u)->wpAny (model X.prog X.w) X.A (subscriptTail value slice v u) (EP X pins O Q) X.xe s
def MtR (X:Cx) (id:String) (r:V->List V->Hp->VK->Prop):Prop:= ∀(pins:List (Addr×Obj)) (s:Shared) (O:St) (H:Hp) (x:V) (xs:List V) (v:Value) (us:List Value) (Q:VK),Inv X pins O H s->yq x v->yF xs us->r x xs H Q-> wpAny (model X.prog X.w) X.A (call (.builtin id) (v::us)) (EP X pins O Q) X.xe s
section
variable {X:Cx}{a b:Expr}{ta tb:TE}{pos:Pos}
theorem IxR.or{r r':R2}(h:IxR X r)(h':IxR X r'):IxR X (λx y H Q=>r x y H Q\/r' x y H Q):=by
 intro value slice pins s O H x y v u Q I rx ry q hs;rcases q with q | q;·exact h value slice pins s O H x y v u Q I rx ry q hs
 ·exact h' value slice pins s O H x y v u Q I rx ry q hs
theorem zg5{r:R2}(hr:IxR X r)(ha:PE X a ta)(hb:PE X b tb)(hs:z8k b):PE X (.Subscript a b pos) (tOp r ta tb):=by
 intro pins s O H Q I h;exact Subscript_ (zgB ha hb I h λv u s2 x y H2 I2 rx ry q=>hr a b pins s2 O H2 x y v u Q I2 rx ry q (hs _ _))
def zhC(K:W.Frag):R2:=λx y H Q=>∃p xs i v,x=.ref p/\y=.int i/\SqL K H p xs/\atI xs i=some v/\Q v H
def zha(K:W.Frag):R2:=λx y H Q=>∃p xs i v,x=.ref p/\y=.int i/\SqT K H p xs/\atI xs i=some v/\Q v H
theorem zc8:IxR X (zhC X.K):=by
 intro value slice pins s O H x y v u Q I rx ry h hs;obtain⟨p,xs,i,z,rfl,rfl,hq,he,q⟩:=h;cases rx;obtain⟨t,rfl⟩:=ry;obtain⟨its,r,pl,hz⟩:=I.list hq;obtain⟨j,h1,h2,h3,h4,h5⟩:=z7t he;obtain⟨w,ew,rw'⟩:=r.get h2;have hl:=r.length;have hn:=z3N;have fin:EP X pins O Q w s:=⟨z,H,I,rw',q⟩;by_cases h0:0<=i
 ·have hj:i.toNat=j:=by
   rw[seqIndex_of h0 h5]at h1;exact _v h1
  exact item_listR pl.isList h0 (by omega) (by rw[hj];simpa using ew) fin hs
 ·have hj:(i+(its.toArray.size:Int)).toNat=j:=by
   rw[seqIndex_neg (by omega) h4]at h1;rw[_k,<- hl];exact _v h1
  exact subscriptTail_builtinR (x:=w) pl.isList.typeIs slot_list_getitem.lookup (wpAny_getItem_list_neg (Q:=λr s'=>r=w/\EP X pins O Q r s') pl.isList (by omega) (by rw[_k]<;>omega) (by omega) (by rw[hj];simpa using ew) ⟨rfl,fin⟩) hs
theorem zez:IxR X (zha X.K):=by
 intro value slice pins s O H x y v u Q I rx ry h hs;obtain⟨p,xs,i,z,rfl,rfl,hq,he,q⟩:=h;cases rx;obtain⟨t,rfl⟩:=ry;obtain⟨its,r,pl,hz⟩:=I.tuple hq;obtain⟨j,h1,h2,h3,h4,h5⟩:=z7t he;obtain⟨w,ew,rw'⟩:=r.get h2;have hl:=r.length;have hn:=z3N;have fin:EP X pins O Q w s:=⟨z,H,I,rw',q⟩;exact subscriptTail_builtinR (x:=w) pl.typeIs slot_tuple_getitem.lookup (getItem_tuple (j:=j) (Q:=λr s'=>r=w/\EP X pins O Q r s') pl (by omega) (by omega) (by rw[_k,<- hl];exact h1) (by simpa using ew) ⟨rfl,fin⟩) hs
theorem z6a (its:List Value) (n j:Nat) (u:Value):Obj.mapSeq (·.setIfInBounds j u) {cls:=.type "list",data:=.seq its.toArray n}={cls:=.type "list",data:=.seq (its.set j u).toArray n}:=by simp[Obj.mapSeq]
theorem Inv.lst{pins:List (Addr×Obj)}{O:St}{H:Hp}{s:Shared}{p:Addr}{xs:List V}(I:Inv X pins O H s)(h:H p=some (.lst xs)): ∃(its:List Value)(n:Nat),yF xs its/\s.heap.get? p=some {cls:=.type "list",data:=.seq its.toArray n}/\xs.length<=sizeLine:=by
 obtain⟨z,its,n,r,e⟩:=I.hok p _ h;exact⟨its,n,r,e,z⟩
theorem Inv.lstUpd {pins:List (Addr×Obj)} {O:St} {H:Hp} {s:Shared} {p:Addr} {xs ys:List V} {its its':List Value} {n n':Nat} {f:Obj->Obj} (I:Inv X pins O H s) (h:H p=some (.lst xs)) (ho:s.heap.get? p=some {cls:=.type "list",data:=.seq its.toArray n}) (hf:f {cls:=.type "list",data:=.seq its.toArray n}={cls:=.type "list",data:=.seq its'.toArray n'}) (r:yF ys its') (hz:ys.length<=sizeLine) (t:Nat): Inv X pins O (upd H p (.lst ys)) {s with heap:=s.heap.update p f,toks:=t}:=by
 have e:(s.heap.update p f).get? p=some {cls:=.type "list",data:=.seq its'.toArray n'}:=by rw[_bh f ho (by rw[hf]<;>rfl),hf]
 refine I.write (x:=p) (e:=p) (by rw[h];trivial) (.inl rfl) (λb u hb q=>(_an _ _ (_a1 hb)).trans q) ⟨_,e⟩ ?_;exact⟨hz,its',n',r,e⟩
def zfN:V->V->V->Hp->(Hp->Prop)->Prop:=λo i v H Q=>∃p xs k j,o=.ref p/\i=.int k/\H p=some (.lst xs)/\ixN xs.length k=some j/\Q (upd H p (.lst (xs.set j v)))
theorem set_list:zh3 X zfN:=by
 intro pins s O H o i v ov iv u Q I ro ri rv h;obtain⟨p,xs,k,j,rfl,rfl,hp,hj,q⟩:=h;cases ro;obtain⟨t,rfl⟩:=ri;obtain⟨its,n,r,ho,hz⟩:=I.lst hp;obtain⟨h1,h2,h3,h4⟩:=z7I hj;have hl:=r.length;have hn:=z3N;have I':Inv X pins O (upd H p (.lst (xs.set j v))) {s with heap:=s.heap.update p (Obj.mapSeq (·.setIfInBounds j u))}:= I.lstUpd hp ho (z6a its n j u) (r.set rv j) (by rw[List.length_set];exact hz) s.toks;by_cases h0:0<=k
 ·have hk:k.toNat=j:=by
   rw[seqIndex_of h0 h4]at h1;exact _v h1
  exact W.ki_setAt ho h0 (by omega) (by rw[_k,<- hl];exact h4) (by rw[hk];exact⟨_,I',q⟩)
 ·have hk:(k+(its.toArray.size:Int)).toNat=j:=by
   rw[seqIndex_neg (by omega) h3]at h1;rw[_k,<- hl];exact _v h1
  exact W.ki_setBack ho (by omega) (by rw[_k,<- hl];exact h3) (by omega) (by rw[hk];exact⟨_,I',q⟩)
theorem z41(lo hi:Option Int)(n:Nat):(sliceBounds lo hi none n).1=((HT.sIx n 0 lo:Nat):Int)/\(sliceBounds lo hi none n).2.1=(HT.sIx n n hi:Int)/\(sliceBounds lo hi none n).2.2=1:=by
 refine⟨?_,?_,rfl⟩;·cases lo with
  | none=>simp[sliceBounds,HT.sIx] | some i=>
   simp only[sliceBounds,HT.sIx,Option.getD_none,show (1:Int) > 0 by decide,_N];by_cases h:i<0;·simp only[h,_N]<;>omega
   ·simp only[h,_ab]<;>omega
 ·cases hi with
  | none=>simp[sliceBounds,HT.sIx] | some i=>
   simp only[sliceBounds,HT.sIx,Option.getD_none,show (1:Int) > 0 by decide,_N];by_cases h:i<0;·simp only[h,_N]<;>omega
   ·simp only[h,_ab]<;>omega
theorem z2k(its:List Value)(lo hi:Option Int):slicePick its.toArray lo hi none=((its.drop (HT.sIx its.length 0 lo)).take (HT.sIx its.length its.length hi-HT.sIx its.length 0 lo)).toArray:=by
 obtain⟨h1,h2,h3⟩:=z41 lo hi its.toArray.size;unfold slicePick;rw[h1,h2,h3];simp only[sliceRange_one,pick_run,_k]<;>rfl
def zhp(K:W.Frag):V->Option Int->Option Int->Hp->VK->Prop:=λx lo hi H Q=>∃a xs,x=.ref a/\SqL K H a xs/\∀p,H p=none->Q (.ref p) (upd H p (.lst (zaN xs lo hi)))
theorem zbK:SlR X (zhp X.K):=by
 intro pins s O H x v vl vu lo hi sl Q I rx hs pl pu h;obtain⟨a,xs,rfl,hx,q⟩:=h;cases rx;obtain⟨its,r,ht,hz⟩:=I.list hx;have hlen:=r.length;refine⟨"list",_,slot_list_getitem.lookup,ht.isList.typeIs,?_⟩;refine wpAny_getItem_list_slice ht.isList hs pl pu .none (by simp) ?_ (by rw[_k]<;>omega);rw[z2k,<- hlen];refine⟨.ref s.heap.objs.size,_,I.laid (t':=s.toks) (o:=.lst (zaN xs lo hi)) (λb ob q=>_e _ q) (_f _) ?_,rfl,q _ (I.hok.fresh (_f _))⟩;exact⟨_M (z0A xs lo hi) hz,_,0,(r.drop (HT.sIx xs.length 0 lo)).take (HT.sIx xs.length xs.length hi-HT.sIx xs.length 0 lo),_t _ rfl⟩
theorem z3J:xG X (.builtin "len") (λxs H Q=>∃p ys,xs=[.ref p]/\(SqL X.K H p ys\/SqT X.K H p ys)/\Q (.int ys.length) H):=by
 intro pins s O H xs us Q I r h;obtain⟨p,ys,rfl,hq,q⟩:=h;obtain⟨u,rfl,rx⟩:=vals1 r;cases rx;have hn:=z3N;rcases hq with hq | hq
 ·obtain⟨its,r',pl,hz⟩:=I.list hq;have hlen:=r'.length;exact Calls.call_len_list pl.isList (by simp only[_k]<;>omega) ⟨.int ys.length,H,I.tok _,⟨s.toks+1,by rw[_k,hlen]⟩,q⟩
 ·obtain⟨its,r',pl,hz⟩:=I.tuple hq;have hlen:=r'.length;exact len_tuple pl (by simp only[_k]<;>omega) ⟨.int ys.length,H,I.tok _,⟨s.toks+1,by rw[_k,hlen]⟩,q⟩
theorem z4w:xG X (.type "list") (λxs H Q=>∃p ys,xs=[.ref p]/\(SqL X.K H p ys\/SqT X.K H p ys)/\∀l,H l=none->Q (.ref l) (upd H l (.lst ys))):=by
 intro pins s O H xs us Q I r h;obtain⟨p,ys,rfl,hq,q⟩:=h;obtain⟨u,rfl,rx⟩:=vals1 r;cases rx;have fin:∀(its:List Value),yF ys its->ys.length<=sizeLine->∀(h':Heap) (c':Nat),(∀b o',s.heap.get? b=some o'->h'.get? b=some o')-> h'.get? s.heap.objs.size=some {cls:=.type "list",dict:=none,data:=.seq its.toArray c',slots:=#[]}->EP X pins O Q (.ref s.heap.objs.size) {s with heap:=h'}:=λits r' hz h' c' kp e=> ⟨.ref s.heap.objs.size,_,I.laid (t':=s.toks) kp (_f _) (show yN X.prog X.w _ h' _ (.lst ys) from⟨hz,its,c',r',e⟩),rfl,q _ (I.hok.fresh (_f _))⟩;rcases hq with hq | hq
 ·obtain⟨its,r',pl,hz⟩:=I.list hq;have hlen:=r'.length;obtain⟨o,ho,hc,n,hd⟩:=pl.isList;exact call_list_seq p (.inl rfl) ho hc hd (λh' c' kp e=>fin its r' hz h' c' kp e) (by simp only[_k]<;>omega)
 ·obtain⟨its,r',pl,hz⟩:=I.tuple hq;have hlen:=r'.length;obtain⟨o,ho,hc,n,hd⟩:=pl;exact call_list_seq p (.inr rfl) ho hc hd (λh' c' kp e=>fin its r' hz h' c' kp e) (by simp only[_k]<;>omega)
theorem z34:xG X (.type "tuple") (λxs H Q=>∃p ys,xs=[.ref p]/\((SqL X.K H p ys/\∀l,H l=none->Q (.ref l) (upd H l (.tup ys)))\/(SqT X.K H p ys/\Q (.ref p) H))):=by
 intro pins s O H xs us Q I r h;obtain⟨p,ys,rfl,h⟩:=h;obtain⟨u,rfl,rx⟩:=vals1 r;cases rx;rcases h with⟨hq,q⟩ | ⟨hq,q⟩
 ·obtain⟨its,r',pl,hz⟩:=I.list hq;have hlen:=r'.length;refine call_tuple_list pl.isList (λh' kp=>?_) (by simp only[_k]<;>omega);have I1:Inv X pins O H {s with heap:=h'}:=I.kept (t':=s.toks) kp;have I2:Inv X pins O (upd H h'.objs.size (.tup ys)) {s with heap:=h'.push {cls:=.type "tuple",data:=.seq its.toArray}}:= I1.laid (t':=s.toks) (λb o e=>_e _ e) (_f _) (show yN X.prog X.w _ _ _ (.tup ys) from⟨hz,its,r',z70.new _ _⟩);exact⟨.ref h'.objs.size,_,I2,rfl,q _ (I1.hok.fresh (_f _))⟩
 ·obtain⟨its,r',pl,hz⟩:=I.tuple hq;exact call_tuple_same pl ⟨.ref p,H,I,rfl,q⟩
def tyV(K:W.Frag)(T:String)(x:V)(H:Hp):Prop:=match x with
 | .str _=>T="str" | .int _=>T="int" | .ref p=>(T="list"/\∃xs,SqL K H p xs)\/(T="tuple"/\∃o,K.lookup p=some o/\o.cls=.type "tuple"/\o.dict=none)\/ (T="dict"/\((∃kvs,H p=some (.dK kvs))\/∃kvs,H p=some (.dT kvs)))\/(T="set"/\∃S n,H p=some (.set S n)) | _=>False
theorem ze0{pins:List (Addr×Obj)}{O:St}{H:Hp}{s:Shared}{T:String}{x:V}{v:Value}(I:Inv X pins O H s)(r:yq x v)(ty:tyV X.K T x H): s.TypeIs v T/\∀a,v=.ref a->∃ob,s.heap.get? a=some ob/\ob.dict=none:=by cases x with
 | str z=>
  obtain⟨t,rfl⟩:=r;cases (show T="str" from ty);exact⟨typeIs_str s z t,λ_ e=>nomatch e⟩ | int i=>
  obtain⟨t,rfl⟩:=r;cases (show T="int" from ty);exact⟨_dy s i t,λ_ e=>nomatch e⟩ | ref p=>
  cases r;rcases ty with⟨rfl,xs,hq⟩ | ⟨rfl,o,hk,hc,hd⟩ | ⟨rfl,hk⟩ | ⟨rfl,S,n,hk⟩
  ·obtain⟨its,_,pl,_⟩:=I.list hq;refine⟨pl.isList.typeIs,λa e=>?_⟩;cases e;obtain⟨o,n,e,c,hd,_⟩:=pl;exact⟨o,e,hd⟩
  ·refine⟨⟨o,I.kIn p o hk,hc⟩,λa e=>?_⟩;cases e;exact⟨o,I.kIn _ o hk,hd⟩
  ·have z:∃o,s.heap.get? p=some o/\o.ExactDict:=by
    rcases hk with⟨kvs,hk⟩ | ⟨kvs,hk⟩
    ·obtain⟨_,_,_,_,o,_,_,e,ex,_⟩:=I.hok p _ hk;exact⟨o,e,ex⟩
    ·obtain⟨_,_,_,_,o,_,_,e,ex,_⟩:=I.hok p _ hk;exact⟨o,e,ex⟩
   obtain⟨o,e,ex⟩:=z;refine⟨⟨o,e,ex.1⟩,λa e2=>?_⟩;cases e2;exact⟨o,e,ex.2.1⟩
  ·obtain⟨o,_,_,_,e,ex,_⟩:=I.hok p _ hk;refine⟨⟨o,e,ex.1⟩,λa e2=>?_⟩;cases e2;exact⟨o,e,ex.2.1⟩ | _=>exact False.elim ty
def tBM(K:W.Frag)(T:String)(r:V->List V->Hp->VK->Prop)(to:TE)(t:TA):TE:=λO H Q=>to O H λx H1=>tyV K T x H1/\t O H1 λxs H2=>r x xs H2 Q
variable {o e:Expr}{es:List Expr}{to:TE}{t:TA}{name:Str}{apos cpos:Pos}{T id:String}{r:V->List V->Hp->VK->Prop}
theorem zcU (pa:PlainAttrs T) (slot:Slot T name id) (hty:typeOf (.builtin id)=pure (.type "method_descriptor")) (hm:MtR X id r) (ho:PE X o to) (ha:PA X (e::es) t) (hbase:attributeBase o name X.env (eval o X.env)=eval o X.env:=by rfl) (hfew:((backTo cpos (starEach (e::es) X.env)).all (λx=>!x.1)&&(backToKw cpos (keywordEach [] X.env)).all (λx=>x.1.isSome) && decide ((e::es).length+([]:List Keyword).length+(if ([]:List Keyword).isEmpty then 0 else 1)<30))=true:=by rfl) (hline:(apos.endLine==cpos.line)=true:=by rfl) (hs:starEach (e::es) X.env=(false,eval e X.env)::starEach es X.env:=by rfl) (hplain:(backTo cpos (starEach es X.env)).any (·.1)=false:=by rfl): PE X (.Call (.Attribute o name apos) (e::es) [] cpos) (tBM X.K T r to t):=by
 intro pins s O H Q I h;refine wpAny_Call_method_late hbase hfew hline rfl (thn (ho pins s O H _ I h) λv s1 ⟨x,H1,I1,r1,ty,q1⟩=>?_);obtain⟨h1,h2⟩:=ze0 I1 r1 ty;refine⟨T,id,pa,slot,hty,h1,h2,?_⟩;have hA:=ha cpos pins s1 O H1 _ I1 q1;rw[hs]at hA ⊢;refine _b6 (by show (false||(backTo cpos (starEach es X.env)).any (·.1))=false;rw[hplain]<;>rfl) (_cr ?_);exact thn hA λus s2 ⟨vs,H2,I2,r2,q2⟩=>hm pins s2 O H2 x vs v us Q I2 r1 r2 q2
end
def MtM (X:Cx) (id:String) (r:V->List V->Hp->VK->Prop):Prop:= ∀(pins:List (Addr×Obj)) (s:Shared) (O:St) (H:Hp) (x:V) (xs:List V) (v:Value) (us:List Value) (Q:VK),Inv X pins O H s->yq x v->yF xs us->r x xs H Q-> wpAny (model X.prog X.w) X.A (call (.builtin id) (v::us)) (EP X pins O Q) X.xe s
theorem yF.one:∀{x:V}{us:List Value},yF [x] us->∃u,us=[u]/\yq x u | _,_,.cons r .nil=>⟨_,rfl,r⟩
theorem yF.two:∀{x y:V}{us:List Value},yF [x,y] us->∃u v,us=[u,v]/\yq x u/\yq y v | _,_,_,.cons r (.cons q .nil)=>⟨_,_,rfl,r,q⟩
theorem yF.rep{xs:List V}{us:List Value}(h:yF xs us):∀k:Nat,yF (List.replicate k xs).flatten (List.replicate k us).flatten
 | 0=>.nil | k+1=>by
  rw[_aQ,_aQ,_bk,_bk];exact yF.append h (yF.rep h k)
theorem foldl_rep(its:List Value):∀(k:Nat)(acc:List Value), List.foldl (λx1 x2=>x1++x2) acc.toArray (List.replicate k its.toArray)=(acc++(List.replicate k its).flatten).toArray
 | 0,acc=>by simp | k+1,acc=>by
  have e:acc.toArray++its.toArray=(acc++its).toArray:=by simp
  have e2:(acc++its)++(List.replicate k its).flatten=acc++(List.replicate (k+1) its).flatten:=by rw[_aQ,_bk,_T]
  rw[<- e2,<- foldl_rep its k (acc++its),<- e,_aQ,_a5]
section
variable {X:Cx}{pins:List (Addr×Obj)}{O:St}{H:Hp}{s:Shared}{l b:Addr}{xs ys zs:List V}
theorem Inv.lset {its its':List Value} {n:Nat} {f:Array Value->Array Value} {t':Nat} (I:Inv X pins O H s) (hH:H l=some (.lst xs)) (e:s.heap.get? l=some {cls:=.type "list",data:=.seq its.toArray n}) (hf:f its.toArray=its'.toArray) (hv:yF ys its') (hz:ys.length<=sizeLine): Inv X pins O (upd H l (.lst ys)) {s with heap:=s.heap.update l (Obj.mapSeq f),toks:=t'}:=by
 have q:=PySem.IsL.update e f;rw[hf]at q;refine I.write (x:=l) (e:=l) (by rw[hH];exact trivial) (.inl rfl) (λb' u hb hu=>(_an s.heap (Obj.mapSeq f) (_a1 hb)).trans hu) ⟨_,q⟩ ?_;exact⟨hz,its',_,hv,q⟩
theorem Inv.lnew {its:List Value} {t':Nat} (I:Inv X pins O H s) (hv:yF ys its) (hz:ys.length<=sizeLine): Inv X pins O (upd H s.heap.objs.size (.lst ys)) {s with heap:=s.heap.push {cls:=.type "list",data:=.seq its.toArray},toks:=t'}:= I.laid (λ_ _ q=>_e _ q) (_f _) ⟨hz,its,0,hv,_t _ rfl⟩
theorem Inv.fresh(I:Inv X pins O H s):H s.heap.objs.size=none:=I.hok.fresh (_f _)
theorem Inv.lstM(I:Inv X pins O H s)(hH:H l=some (.lst xs)):xs.length<=sizeLine/\∃(its:List Value)(n:Nat),yF xs its/\xs.length=its.length/\s.heap.get? l=some {cls:=.type "list",data:=.seq its.toArray n}:=by
 obtain⟨z,its,n,r,e⟩:=I.hok l _ hH;exact⟨z,its,n,r,r.length,e⟩
end
section
variable {X:Cx}
def zct:V->List V->Hp->VK->Prop:=λx vs H Q=>∃l xs y,x=.ref l/\vs=[y]/\H l=some (.lst xs)/\xs.length<sizeLine/\Q .non (upd H l (.lst (xs++[y])))
theorem z8h:MtM X "list.append" zct:=by
 intro pins s O H x vs v us Q I rx rv h;obtain⟨l,xs,y,rfl,rfl,hH,hz,q⟩:=h;cases rx;obtain⟨u,rfl,ru⟩:=rv.one;obtain⟨z,its,n,r,hl,e⟩:=I.lstM hH;refine _ck F.slot_list_append ⟨_,e,rfl⟩ F.entry_list_append (F.args_list_append_2 _ _) (PySem.list_append l its.toArray n u (by rw[_k];omega)) ⟨e,?_⟩;refine⟨.non,_,I.lset (its':=its++[u]) hH e (by simp) (r.append (.cons ru .nil)) ?_,rfl,q⟩;rw[_H,_bB];omega
theorem len_rep{α:Type}(xs:List α)(k:Nat):(List.replicate k xs).flatten.length=k*xs.length:=by induction k with
 | zero=>simp | succ k ih=>rw[_aQ,_bk,_H,ih,Nat.succ_mul,Nat.add_comm]
end
end L2
namespace Att
open PySem.W PySem.Calls
theorem z1a{P:Params}{h:Heap}:∀(ns:List Int)(vs:List Value),WellAll P h vs (ns.map WData.int)->IntsAre vs ns:=by
 intro ns;induction ns with
 | nil=>
  intro vs w;rw[List.map_nil]at w;cases w;exact .nil | cons n ns ih=>
  intro vs w;rw[_l]at w;cases w with | cons a b=>
   cases a;exact .cons _ _ (ih _ b)
theorem z8V {l:OpenLaw} {n:Nat} (hn:l.most=some n) {P:Params} {h:Heap} {args:List WData} {vals:List Value} (hpre:l.row.toRowW.claim.pre args=true) (hwl:WellAll P h vals args): ∃a vs ns,vals=[Value.ref a]/\args=[WData.list (ns.map WData.int)]/\h.get? a=some {cls:=.type "list",data:=.seq vs.toArray}/\IntsAre vs ns/\ns.length<=n:=by
 have hsh:WShape.hasAll [] args [.list .int]=true:=(pre_splitW hpre).1;have hc:l.pre.holds [] {args:=args}=true:=(pre_splitW hpre).2;obtain⟨d,r,rfl,h1,h2⟩:=hasAllW_cons hsh;obtain rfl:=hasAllW_nil h2;obtain⟨xs,rfl,h3⟩:=hasW_list h1;obtain⟨ns,rfl⟩:=items_int h3;have hlen:ns.length<=n:=by
  unfold OpenLaw.pre at hc;have h4:(WTm.not (.lt (.lit (.int (n:Int))) (.len (.arg 0)))).holds [] {args:=[.list (ns.map .int)]}=true:=by
   have h4:=(holds_andW hc).1;rw[hn]at h4;exact h4
  have h5:=condW_of h4 (w_not (w_lt w_lit (w_len_list (w_arg rfl))));rw[_o]at h5;refine Nat.le_of_not_lt λq=>?_;have q':(n:Int)<(ns.length:Int):=by omega
  first
   | (rw[_aa q']at h5;exact absurd h5 (by decide)) | (simp at h5;omega)
 cases hwl with | cons w1 w2=>
  cases w2;cases w1 with | list ho hall=>exact⟨_,_,ns,rfl,rfl,ho,z1a ns _ hall,hlen⟩
theorem z8j (l:OpenLaw) (args:List WData):l.row.toRowW.claim.post args (.bool true) args=true:= postW_of (r:=l.row.toRowW) (X:=(true==true)) (show WShape.has [] (.bool true) .bool=true by first | rfl | decide | simp[WShape.has,WShape.arms,WShape.armsAll]) (show (WTm.eq .res (.lit (.bool true))).value [] {args:=args,res:=some (.bool true),after:=args}=some (.bool (true==true)) from w_eq_bool (w_res rfl) w_lit) rfl
theorem z4X{l:OpenLaw}{n:Nat}{q:Program}{loose:List Str}{XP:(Str->Option Value)->Heap->Prop}{YP:World->Heap->Prop}{d:DefRec} (hn:l.most=some n)(hdf:d.params.defaults=[]) (call:∀(w:World)(s₀ s₁:Shared)(mg mb:Str->Option Value)(fa:Addr)(o:Obj)(pm cd doc:Value)(a:Addr)(vs:List Value)(ns:List Int), Ground q loose [] XP w s₀ mg mb s₁.heap->YP w s₁.heap-> s₁.heap.get? fa=some o->o.data=.func (docDef d.name d.params d.body d.scope pm cd doc)->s₁.heap.CodeRec cd d.name->mg d.name=some (.ref fa)-> s₁.heap.get? a=some {cls:=.type "list",data:=.seq vs.toArray}->IntsAre vs ns->ns.length<=n->s₁.gens=#[]-> codeAny (model l.prog w) callerA (.call (.ref fa) ⟨[.ref a],[]⟩) (λr s'=>r=.ok (.ret (.bool true))/\OldK s₁.heap s'.heap/\s'.os=s₁.os/\AllBare s'.gens) s₁): WalkO q loose XP YP l.row.toRowW d [] (λf vs=>PySem.call f vs):=by
 intro w s₀ s₁ mg mb G Yy fa o pm cd doc dV kV ho hd hcd hD hmg hg args vals as hpre hlay hrd hwl hlo;obtain rfl:dV=.none:=Dflts.none hD hdf;obtain rfl:kV=.none:=Dflts.noKw hD;obtain⟨a,vs,ns,rfl,rfl,hobj,hints,hlen⟩:=z8V hn hpre hwl;refine enter_call (_dw (call w s₀ s₁ mg mb fa o pm cd doc a vs ns G Yy ho (fd_plain hd) hcd hmg hobj hints hlen hg) λr s' hq=>?_);obtain⟨rfl,h2,h3,h4⟩:=hq;exact⟨.inl ⟨.bool true,.bool true,[],rfl,λ_=>rfl,.bool true,z8j l _,λ_=>⟨List.Pairwise.nil,λ_ hm=>(nomatch hm)⟩⟩,h2,h3,h4⟩
section
variable {prog:Program}{w:World}{A:Around}{E:Value->Shared->Prop}{s:Shared}{K:Frag}
noncomputable def ledger(h:Heap)(L d:Addr):List (Addr×Obj):=(List.range h.objs.size).filterMap λa=>if a=L\/a=d then none else (h.get? a).map λo=>(a,o)
end
end Att
namespace L2
theorem z3n:∀{vs:List Value}{ns:List Int},IntsAre vs ns->yF (ns.map V.int) vs
 | _,_,.nil=>.nil | _,_,.cons n t h=>.cons ⟨t,rfl⟩ (z3n h)
def zgt(H:Hp):Prop:=∀b,H b=none\/∃o xs,H b=some (.frz o (.lst xs))
theorem z9Y {P:Program} {w:World} {K:W.Frag} {mg mb:Str->Option Value} {CX:CXT} {k:Nat} {fa a:Addr} {fd:FuncData} {x:Str} {sp:Sp} {s₁:Shared} {vs:List Value} {ns:List Int} (KX:K.In s₁.heap) (hns:s₁.heap.Ns mainGlobals mg) (hb:s₁.heap.Ns builtinsNs mb) (hbb:∀x:Str,x≠"__name__"->mb x=bootBuiltins x) (hlim:s₁.heap.NoLimit) (hg:s₁.gens=#[]) (ha:s₁.heap.get? a=some {cls:=.type "list",data:=.seq vs.toArray}) (hi:IntsAre vs ns) (hl:ns.length<=sizeLine) (hr:z1v k callerA) (F:∀base:Heap,K.In base->base.Ns mainGlobals mg->z3h P w K mg base CX k fa fd [x] sp) (hbind:∀(s:Shared) (u:Value),BindsTo s fd ⟨[u],[]⟩ [(x,u)]) (hsp:∀H:Hp,zgt H->SqL K H a (ns.map V.int)->sp [.ref a] H (λv _=>v=.bl true) λ_ _ _=>False) (hCX:∀H e s',CX [] H s₁ (λ_ _ _=>False) e s'->False): codeAny (model P w) callerA (.call (.ref fa) ⟨[.ref a],[]⟩) (λr s'=>r=.ok (.ret (.bool true))/\OldK s₁.heap s'.heap/\s'.os=s₁.os/\AllBare s'.gens) s₁:=by
 have rv:=z3n hi;have lenV:=hi.length;have core:∀H:Hp,zgt H->SqL K H a (ns.map V.int)->HOk P w H s₁.heap->(∀b,H b≠none->b=a)->(H a≠none->K.lookup a=none)-> codeAny (model P w) callerA (.call (.ref fa) ⟨[.ref a],[]⟩) (λr s'=>r=.ok (.ret (.bool true))/\OldK s₁.heap s'.heap/\s'.os=s₁.os/\AllBare s'.gens) s₁:=by
  intro H hO hS hok hA hK;have base_of:∀{b:Addr} {o:Obj},s₁.heap.get? b=some o->H b=none->(z9I s₁.heap H).get? b=some o:=λe n=>z9G e n;have noA:∀{b:Addr} {o:Obj} {es:Array DictEntry} {ep:Nat},s₁.heap.get? b=some o->o.data=.dict es ep->H b=none:=λ{b o es ep} e d=>by cases q:H b with
   | none=>rfl | some u=>
    have e':b=a:=hA b (by rw[q];simp);subst e';rw[ha]at e;cases e;have d':Data.seq vs.toArray _=Data.dict es ep:=d;cases d'
  have nsK:∀{b:Addr} {m:Str->Option Value},s₁.heap.Ns b m->(z9I s₁.heap H).Ns b m:=λ{b m} ⟨o,es,ep,e,d,r⟩=>⟨o,es,ep,base_of e (noA e d),d,r⟩;have hKb:K.In (z9I s₁.heap H):=λb o e=>base_of (KX b o e) (by cases q:H b with
   | none=>rfl | some u=>
    have e':b=a:=hA b (by rw[q];simp);subst e';rw[hK (by rw[q];simp)]at e;cases e);have hM:Mod K mg (z9I s₁.heap H):=⟨hKb,nsK hns,⟨mb,nsK hb,hbb⟩,let ⟨mc,h1,h2⟩:=hlim;⟨mc,nsK h1,h2⟩⟩;have e0:zfr P w K mg (z9I s₁.heap H) callerA [] s₁ H:=⟨rfl,hM,λb o e=>zda e,Nat.le_of_eq (z76 _ _),trivial,λb hb=>absurd (show b∈([]:List Addr) from hb) (by simp),hok,.of_eq hg⟩;refine _dw ((F _ hKb (nsK hns)).run callerA [] s₁ H ⟨[.ref a],[]⟩ [.ref a] [.ref a] _ _ hr e0 (hbind s₁ (.ref a)) (.cons rfl .nil) (hsp H hO hS)) λr s' h=>?_;cases r with
  | error e=>exact (hCX H e s' h).elim | ok fl=> cases fl with
   | next=>exact False.elim h | brk=>exact False.elim h | cont=>exact False.elim h | ret u=>
    obtain⟨v,H',os,bare,un,hok',r',q⟩:=h;have q':v=.bl true:=q;subst q';obtain rfl:u=Value.bool true:=r';refine⟨rfl,OldK.of_keep λb o e=>?_,os,bare⟩;cases q:H b with
    | none=>exact un.keep b o e q (by intro z;exact absurd (show b∈([]:List Addr) from z) (by simp)) (by simp) | some u=>
     rcases hO b with z | ⟨ob,xs,z⟩;·rw[q]at z;cases z
     ·have z2:=un.frzs b ob _ z;obtain⟨e1,_⟩:=hok b _ z;obtain⟨e2,_⟩:=hok' b _ z2;rw[e]at e1;cases e1;exact e2
 cases hk:K.lookup a with
 | some o=>
  have e:=KX a o hk;rw[ha]at e;cases e;refine core (λ_=>none) (λ_=>.inl rfl) (.inr ⟨_,vs.toArray,_,hk,rfl,rfl,rfl,by rw[_k,lenV];exact hl,by simpa using rv⟩) (λb u z=>by have z':(none:Option HO)=some u:=z;cases z') (λb z=>absurd rfl z) λz=>absurd rfl z | none=>
  refine core (λb=>if b=a then some (.frz {cls:=.type "list",data:=.seq vs.toArray} (.lst (ns.map V.int))) else none) (λb=>?_) (.inl (.inr ⟨{cls:=.type "list",data:=.seq vs.toArray},_g rfl⟩)) (λb u z=>?_) (λb z=>?_) λ_=>hk
  ·by_cases hb:b=a;·exact .inr ⟨_,_,_g hb⟩
   ·exact .inl (_j hb)
  ·by_cases hb:b=a
   ·have z':=(_g hb).symm.trans z;cases z';subst hb;exact⟨ha,by rw[_o];exact hl,vs,_,rv,ha⟩
   ·have z':=(_j hb).symm.trans z;cases z'
  ·by_cases hb:b=a;·exact hb
   ·exact absurd (_j hb) z
noncomputable abbrev KOf{K:W.Frag}{h:Heap}(_:K.In h):W.Frag:=K
noncomputable def kc(s:Stmt):Arguments:=match s with
 | .FunctionDef _ a _ _ _ _ _ _ _ _=>a | _=>{posonlyargs:=[],args:=[],vararg:=none,kwonlyargs:=[],kw_defaults:=[],kwarg:=none,defaults:=[]}
noncomputable def uC(s:Stmt):List Stmt:=match s with
 | .FunctionDef _ _ b _ _ _ _ _ _ _=>b | _=>[]
noncomputable def zo(s:Stmt):Scope:=match s with
 | .FunctionDef _ _ _ _ _ _ sc _ _ _=>sc | _=>{kind:=.function,names:=[],isGenerator:=false,isCoroutine:=false}
abbrev CX0:CXT:=λ_ _ _ _ _ _=>False
abbrev E0:XK:=λ_ _ _=>False
theorem zM{X:Cx}:Passes CX0 X E0:=λ_ _ _ _ _ _ _ h=>h.elim
structure Fun(K:W.Frag)(x qual:Str)(st:Stmt)(f:Addr)(fd:FuncData):Prop where
 ex:∃(oc:Value)(od:Option Addr)(kV doc pm:Value)(an:Option Addr)(cdv ct:Value)(osl:Array (Option Value)), fd=W.fnOf x qual (kc st) (uC st) (zo st) .none kV doc pm an cdv ct/\K.lookup f=some ⟨oc,od,.func fd,osl⟩/\W.codeIn K cdv qual=true
 kp:W.keepIn K (.ref f)=true
section
variable {P:Program}{w:World}{K:W.Frag}{mg:Str->Option Value}{base:Heap}
theorem Fun.ok{x qual:Str}{st:Stmt}{f:Addr}{fd:FuncData}{N ps:List Str}{k:Nat}{sp:Sp}(F:Fun K x qual st f fd)(S:zG N ps (zo st))(len:∀vs H Q E,sp vs H Q E->vs.length=ps.length) (hbody:∀(cdv:Value)(A:Around)(outer:List Env)(s:Shared)(H:Hp)(vs:List V)(Q:VK)(E:XK),z1v k (A.deeper (envOfC qual (zo st) s.heap.objs.size f cdv))->sp vs H Q E-> ∃t,PSs (z95 CX0 P w K mg base N qual (zo st) f cdv A outer s H E).nox (uC st) t/\t {nx:=λ_ H'=>Q .non H',rt:=Q} (start N vs) H):z3h P w K mg base CX0 (k+1) f fd ps sp:=by
 obtain⟨oc,od,kV,doc,pm,an,cdv,ct,osl,rfl,lk,hcd⟩:=F.ex;refine zfE lk hcd S len λA outer s H vs Q E hr hsp=>?_;obtain⟨t,h,q⟩:=hbody cdv A outer s H vs Q E hr hsp;exact⟨t,h.nox,q⟩
theorem Fun.binds{x qual:Str}{st:Stmt}{f:Addr}{fd:FuncData}{ps:List Str}(F:Fun K x qual st f fd) (h:∀(kV doc pm:Value)(an:Option Addr)(cdv ct:Value)(us:List Value),us.length=ps.length->bindArgs (W.fnOf x qual (kc st) (uC st) (zo st) .none kV doc pm an cdv ct) ⟨us,[]⟩=pure (ps.zip us)):Binds K fd ps []:=by
 obtain⟨oc,od,kV,doc,pm,an,cdv,ct,osl,rfl,lk,hcd⟩:=F.ex;exact .all (h kV doc pm an cdv ct)
theorem zeR{x qual:Str}{st:Stmt}{f:Addr}{oc:Value}{od an:Option Addr}{osl:Array (Option Value)}{kV doc pm cdv ct:Value}(l:K.lookup f=some ⟨oc,od,.func (W.fnOf x qual (kc st) (uC st) (zo st) .none kV doc pm an cdv ct),osl⟩) (c:W.codeIn K cdv qual=true)(k:W.keepIn K (.ref f)=true):Fun K x qual st f (W.fnOf x qual (kc st) (uC st) (zo st) .none kV doc pm an cdv ct):=⟨⟨oc,od,kV,doc,pm,an,cdv,ct,osl,rfl,l,c⟩,k⟩
end
section
variable {X:Cx}
theorem pv(i:Nat){x:Str}{pos:Pos}(hN:X.N[i]? = some x:=by rfl)(hv:Vis X.env.scope x:=by first | exact Or.inl rfl | exact Or.inr (Or.inl rfl) | exact Or.inr (Or.inr rfl))(hd:(x==("__debug__":Str))=false:=by decide) (hcd:(x==("__classdict__":Str))=false:=by decide):PE X (.Name x pos) (z73 i):=kG hN hv hd hcd
end
end L2
set_option maxHeartbeats 4000000
namespace L2
noncomputable def z2L(env:Env):List (Str×NameKind)->List (Str×Addr)->List (Str×Addr)
 | [],acc=>acc | (n,k)::r,acc=>z2L env r (if k==.free then (match env.cells.lookup n with | some c=>(n,c)::acc | none=>acc) else acc)
theorem z1d{env:Env}:∀(names:List (Str×NameKind))(acc:List (Str×Addr)),(∀x c,acc.lookup x=some c->env.cells.lookup x=some c)->∀x c,(z2L env names acc).lookup x=some c->env.cells.lookup x=some c
 | [],acc,ha=>ha | (n,k)::r,acc,ha=>by
  unfold z2L;refine z1d r _ λx c=>?_;split
  ·split
   ·rename_i c' hc;intro h;rw[_aq]at h;split at h
    ·rename_i hb;cases h;rw[_bQ.mp hb];exact hc
    ·exact ha x c h
   ·exact ha x c
  ·exact ha x c
theorem z3Z{env:Env}{x:Str}:∀(names:List (Str×NameKind))(acc:List (Str×Addr)),(acc.lookup x).isSome=true->((z2L env names acc).lookup x).isSome=true
 | [],acc,ha=>ha | (n,k)::r,acc,ha=>by
  unfold z2L;refine z3Z r _ ?_;split
  ·split
   ·rw[_aq];split;·rfl
    ·exact ha
   ·exact ha
  ·exact ha
theorem z2b{env:Env}{x:Str}:∀(names:List (Str×NameKind))(acc:List (Str×Addr)),(x,NameKind.free)∈names->(∃c,env.cells.lookup x=some c)->∃c,(z2L env names acc).lookup x=some c
 | [],acc,h,_=>nomatch h | (n,k)::r,acc,h,hc=>by
  rcases _h.mp h with e | h
  ·cases e;obtain⟨c,hc⟩:=hc;unfold z2L;have q:((z2L env r ((x,c)::acc)).lookup x).isSome=true:=z3Z r _ (by simp);rw[_g (by rfl),hc];exact Option.isSome_iff_exists.mp q
  ·unfold z2L;exact z2b r _ h hc
theorem z1J{env:Env}(f:Str×NameKind->List (Str×Addr)->Sem (ForInStep (List (Str×Addr)))) (hf:∀n k cs,f (n,k) cs=if k==.free then (do let a <- cellOf env n;pure (.yield ((n,a)::cs))) else pure (.yield cs)): ∀(names:List (Str×NameKind))(acc:List (Str×Addr)),(∀y∈names,y.2=.free->∃c,env.cells.lookup y.1=some c)->forIn names acc f=pure (z2L env names acc)
 | [],acc,_=>rfl | (n,k)::r,acc,h=>by
  rw[List.forIn_cons,hf];have ih:=λacc'=>z1J f hf r acc' λy hy=>h y (_C _ hy);unfold z2L;by_cases hk:k=.free
  ·subst hk;obtain⟨c,hc⟩:=h (n,.free) _U rfl;have hc':env.cells.lookup n=some c:=hc;have e:cellOf env n=pure c:=by unfold cellOf;rw[hc']
   rw[_g (by rfl),_g (by rfl),e,hc',pure_bind,pure_bind];exact ih _
  ·have hb:(k==NameKind.free)=false:=by simpa using hk
   rw[hb,_j (by decide),_j (by decide),pure_bind];exact ih _
theorem wV{scope:Scope}{env:Env}(h:∀y∈scope.names,y.2=.free->∃c,env.cells.lookup y.1=some c):closureFor scope env=pure (z2L env scope.names []):=by
 simp only[closureFor];rw[z1J (env:=env) _ (λn k cs=>by cases hk:k==NameKind.free<;>simp[hk]) scope.names [] h];simp
theorem xW:∀(names:List (Str×NameKind))(n:Nat)(acc:List (Str×Addr)),cellsFrom n names acc=cellsFrom n names []++acc
 | [],_,_=>rfl | (x,k)::r,n,acc=>by
  unfold cellsFrom;split
  ·rw[xW r (n+1) ((x,n)::acc),xW r (n+1) [(x,n)]];simp
  ·exact xW r n acc
theorem ui{x:Str}{c:Addr}:∀(names:List (Str×NameKind))(n:Nat)(acc:List (Str×Addr)),(x,c)∈cellsFrom n names acc->(x,c)∈acc\/(x,NameKind.cell)∈names
 | [],_,_,h=>.inl h | (y,k)::r,n,acc,h=>by
  unfold cellsFrom at h;split at h
  ·rename_i hk;rcases ui r _ _ h with q | q
   ·rcases _h.mp q with e | q
    ·cases e;refine .inr ?_;rw[show k=NameKind.cell from _bQ.mp hk];exact _U
    ·exact .inl q
   ·exact .inr (_C _ q)
  ·rcases ui r _ _ h with q | q;·exact .inl q
   ·exact .inr (_C _ q)
noncomputable def z5e(X:Cx)(scope:Scope)(C:Addr):Env:= {scope:=relabel scope X.env,locals:=C,globals:=X.env.globals,cells:=cellsFrom (C+1) scope.names []++z2L X.env scope.names [],qual:=X.env.qual,func:=none,code:=X.env.code,frame:=X.env.frame,builtins:=X.env.builtins}
noncomputable def zp(X:Cx)(N':List Str)(scope:Scope)(ex:List Addr)(s:Shared)(H:Hp):Cx where
 prog:=X.prog;w:=X.w;K:=X.K;mg:=X.mg;base:=X.base;A:=X.A;N:=N';s₀:=s;H₀:=H;env:=z5e X scope s.heap.objs.size;outer:=X.stack;stack:=X.stack;ex:=ex;fn:=λx=>scope.names.lookup x==some .cell;calm:=X.calm;pn:=[];xe:=λ_ _=>False
theorem qO{env:Env}{x:Str}{k:NameKind}:∀{names:List (Str×NameKind)},names.lookup x=some k-> (names.map λ(n,k)=>if (k==NameKind.free&&env.scope.kind==.function&&env.kindOf n==some .cell) then (n,NameKind.cell) else (n,k)).lookup x=some k\/ (k=.free/\(names.map λ(n,k)=>if (k==NameKind.free&&env.scope.kind==.function&&env.kindOf n==some .cell) then (n,NameKind.cell) else (n,k)).lookup x=some .cell)
 | [],h=>by simp at h | (n,k')::r,h=>by
  have ih:=@qO env x k r;show List.lookup x ((if (k'==NameKind.free&&env.scope.kind==.function&&env.kindOf n==some .cell)=true then (n,NameKind.cell) else (n,k'))::_)=_\/(_/\List.lookup x ((if (k'==NameKind.free&&env.scope.kind==.function&&env.kindOf n==some .cell)=true then (n,NameKind.cell) else (n,k'))::_)=_);cases hx:x==n with
  | true=>
   simp only[_aq,hx]at h;cases h;by_cases hc:(k==NameKind.free&&env.scope.kind==.function&&env.kindOf n==some .cell)=true
   ·rw[_g hc];simp only[_p,_bQ]at hc;exact .inr ⟨hc.1.1,by simp[_aq,hx]⟩
   ·rw[_j hc];exact .inl (by simp[_aq,hx]) | false=>
   simp only[_aq,hx]at h;by_cases hc:(k'==NameKind.free&&env.scope.kind==.function&&env.kindOf n==some .cell)=true;·rw[_g hc];simp only[_aq,hx];exact ih h
   ·rw[_j hc];simp only[_aq,hx];exact ih h
theorem vK{env:Env}{x:Str}{k:NameKind}:∀{names:List (Str×NameKind)}, (names.map λ(n,k)=>if (k==NameKind.free&&env.scope.kind==.function&&env.kindOf n==some .cell) then (n,NameKind.cell) else (n,k)).lookup x=some k->(k=.cell\/k=.free)->(x,NameKind.cell)∈names\/(x,NameKind.free)∈names
 | [],h,_=>by simp at h | (n,k')::r,h,hk=>by
  have ih:=@vK env x k r;change List.lookup x ((if (k'==NameKind.free&&env.scope.kind==.function&&env.kindOf n==some .cell)=true then (n,NameKind.cell) else (n,k'))::_)=_ at h;have step:(List.lookup x (r.map λ(n,k)=>if (k==NameKind.free&&env.scope.kind==.function&&env.kindOf n==some .cell) then (n,NameKind.cell) else (n,k))=some k)->(x,NameKind.cell)∈(n,k')::r\/(x,NameKind.free)∈(n,k')::r:=λq=> (ih q hk).elim (λz=>.inl (_C _ z)) λz=>.inr (_C _ z);by_cases hc:(k'==NameKind.free&&env.scope.kind==.function&&env.kindOf n==some .cell)=true
  ·rw[_g hc,_aq]at h;split at h
   ·rename_i hb;simp only[_p,_bQ]at hc;rw[_bQ.mp hb,hc.1.1];exact .inr _U
   ·exact step h
  ·rw[_j hc,_aq]at h;split at h
   ·rename_i hb;cases h;rw[_bQ.mp hb];rcases hk with rfl | rfl;·exact .inl _U
    ·exact .inr _U
   ·exact step h
noncomputable def inner(mp:List (Option Nat))(O:St):St:=mp.map λo=>match o with | some j=>(O[j]?).getD none | none=>none
noncomputable def z0s(N:List Str)(names:List (Str×NameKind)):List Str->List (Option Nat)->Bool
 | [],[]=>true | _::r,none::mp=>z0s N names r mp | x::r,some j::mp=>N[j]? == some x&&names.lookup x==some .free&&z0s N names r mp | _,_=>false
theorem z2g{N:List Str}{names:List (Str×NameKind)}:∀{N':List Str}{mp:List (Option Nat)},z0s N names N' mp=true->mp.length=N'.length
 | [],[],_=>rfl | _::_,none::_,h=>by
  simp only[z0s]at h;simp only[_s];rw[z2g h] | _::_,some _::_,h=>by
  simp only[z0s,_p]at h;simp only[_s];rw[z2g h.2] | [],none::_,h=>by cases h | [],some _::_,h=>by cases h | _::_,[],h=>by cases h
theorem z5g{N:List Str}{names:List (Str×NameKind)}:∀{N':List Str}{mp:List (Option Nat)}{i j:Nat}{x:Str},z0s N names N' mp=true->N'[i]? = some x->mp[i]? = some (some j)->N[j]? = some x/\names.lookup x=some .free
 | [],_,_,_,_,_,h,_=>by simp at h | _::_,[],_,_,_,_,_,h=>by simp at h | _::_,none::_,0,_,_,_,_,h=>by simp at h | _::_,some _::_,0,_,_,h,h1,h2=>by
  simp only[z0s,_p,_bQ]at h;simp at h1 h2;subst h1 h2;exact h.1 | _::_,none::_,i+1,_,_,h,h1,h2=>by
  simp only[z0s]at h;exact z5g (i:=i) h (by simpa using h1) (by simpa using h2) | _::_,some _::_,i+1,_,_,h,h1,h2=>by
  simp only[z0s,_p]at h;exact z5g (i:=i) h.2 (by simpa using h1) (by simpa using h2)
section
variable {X:Cx}{pins:List (Addr×Obj)}{O:St}{H:Hp}{s s1:Shared}{scope:Scope}{N':List Str}{ex:List Addr}{mp:List (Option Nat)}
theorem z6N{α:Type}{x:Str}{l1 l2:List (Str×α)}{c:α}(h:(l1++l2).lookup x=some c):l1.lookup x=some c\/(l1.lookup x=none/\l2.lookup x=some c):=by
 rw[_bR]at h;cases e:l1.lookup x with
 | some d=>rw[e]at h;exact .inl h | none=>rw[e]at h;exact .inr ⟨rfl,h⟩
theorem z20 (I:Inv X pins O H s) (hkd:scope.kind=.function) (hnm:∀y∈scope.names,scope.names.lookup y.1=some y.2) (hfr:∀y∈scope.names,y.2=.free->X.env.kindOf y.1=some .cell\/X.env.kindOf y.1=some .free) (hmp:z0s X.N scope.names N' mp=true) (hex:∀b∈ex,b<s.heap.objs.size/\H b=none/\b≠X.env.locals/\b∉X.fs/\(b∈X.ex\/X.s₀.heap.objs.size<=b)/\(∀x c,X.env.cells.lookup x=some c->c≠b)) (e1:s1.heap=pushCells (s.heap.push {cls:=.type "dict",data:=.dict #[]}) scope.names) (e2:s1.os=s.os) (e3:s1.gens=s.gens): Inv (zp X N' scope ex s H) [] (inner mp O) H s1:=by
 have keep:∀b o,s.heap.get? b=some o->s1.heap.get? b=some o:=λb o e=>by rw[e1];exact _cy _ _ b o (_e _ e)
 have ok:=cellsFrom_ok scope.names (s.heap.push {cls:=.type "dict",data:=.dict #[]}) (s.heap.objs.size+1) [] ⟨λ_ _ hm=>(nomatch hm),List.Pairwise.nil⟩ (by rw[_aw];exact _f _);rw[_aw,<- e1]at ok;have hclo:∀x c,(z2L X.env scope.names []).lookup x=some c->X.env.cells.lookup x=some c:=z1d scope.names [] (λx c h=>by simp at h);have clt:∀x c,X.env.cells.lookup x=some c->c<s.heap.objs.size:=λx c h=>by obtain⟨v,q⟩:=I.cell x c h;exact q.lt
 have own:∀x c,(cellsFrom (s.heap.objs.size+1) scope.names []).lookup x=some c->s1.heap.IsCell c none/\s.heap.objs.size+1<=c:=λx c h=>ok.empty x c (_ai h);have zbA:∀x c,(z5e X scope s.heap.objs.size).cells.lookup x=some c->((cellsFrom (s.heap.objs.size+1) scope.names []).lookup x=some c/\s1.heap.IsCell c none/\s.heap.objs.size+1<=c)\/(X.env.cells.lookup x=some c):=λx c h=>by
  rcases z6N h with q | ⟨_,q⟩;·exact .inl ⟨q,own x c q⟩
  ·exact .inr (hclo x c q)
 refine⟨⟨I.ok.mod,hkd,I.ok.glob,I.ok.blt,_f _,λx y c h1 h2=>?_,λx hx=>?_,λx c hf h=>?_,I.ok.hd,I.ok.frames,.inl rfl,λb hb=>⟨_G (hex b hb).1,λx c h=>?_⟩,λb o e=>I.bs b o e,_M I.ok.bsz I.sz,λb o e hb=>?_,λb hb hf=>?_,I.stack,I.stkFree⟩, e2,by rw[e3];exact I.bare,Un.kept keep,?_,λx c h=>?_,I.hok.fresh (_f _),λx c h=>?_,λp hp=>absurd (show p∈([]:List (Addr×Obj)) from hp) (by simp),I.hok.kept keep,?_⟩
 ·rcases zbA x c h1 with⟨q1,_,l1⟩ | q1<;>rcases zbA y c h2 with⟨q2,_,l2⟩ | q2;·exact name_of_addr ok.apart (_ai q1) (_ai q2)
  ·exact absurd (_w (clt y c q2) (_dd l1)) (_ax _)
  ·exact absurd (_w (clt x c q1) (_dd l2)) (_ax _)
  ·exact I.ok.inj x y c q1 q2
 ·have hx':(x,NameKind.cell)∈scope.names\/(x,NameKind.free)∈scope.names:=by
   rcases hx with hx | hx;·exact vK (env:=X.env) hx (.inl rfl)
   ·exact vK (env:=X.env) hx (.inr rfl)
  show ∃c,(cellsFrom (s.heap.objs.size+1) scope.names []++z2L X.env scope.names []).lookup x=some c;rw[_bR];cases e:(cellsFrom (s.heap.objs.size+1) scope.names []).lookup x with
  | some c=>exact⟨c,rfl⟩ | none=>
   rcases hx' with hx' | hx'
   ·obtain⟨c,q⟩:=z0l (sc:=scope) (n:=s.heap.objs.size+1) (hnm (x,.cell) hx');rw[q]at e;cases e
   ·obtain⟨c,q⟩:=z2b (env:=X.env) scope.names [] hx' (I.ok.has x (hfr (x,.free) hx' rfl));exact⟨c,by simpa using q⟩
 ·have hf':scope.names.lookup x=some .cell:=_bQ.mp hf;obtain⟨c',q⟩:=z0l (sc:=scope) (n:=s.heap.objs.size+1) hf';have h':(cellsFrom (s.heap.objs.size+1) scope.names []++z2L X.env scope.names []).lookup x=some c:=h;rw[_bR,q]at h';have e:c'=c:=_v h';subst e;exact _az (Nat.lt_of_succ_le (own x c' q).2)
 ·rcases zbA x c h with⟨_,_,l⟩ | q
  ·intro z;rw[z]at l;exact absurd (_w (hex b hb).1 (_dd l)) (_ax _)
  ·exact (hex b hb).2.2.2.2.2 x c q
 ·rcases (hex b hb).2.2.2.2.1 with z | z;·exact I.ok.noex b o e z
  ·exact absurd (_w (_w (_r e) I.ok.bsz) z) (_ax _)
 ·have q:=I.stkSub b hf;rcases _h.mp q with z | z;·exact (hex b hb).2.2.1 z
  ·exact (hex b hb).2.2.2.1 z
 ·refine⟨λ_=>none,?_,λi x v h1 h2 h3=>?_⟩
  ·rw[e1];exact (Heap.Ns.new s.heap (.type "dict")).keeps (_cy _ _)
  ·have h2':(inner mp O)[i]? = some (some v):=h2;unfold inner at h2';rw[_R]at h2';cases em:mp[i]? with
   | none=>rw[em]at h2';cases h2' | some o=>
    rw[em]at h2';cases o with
    | none=>cases h2' | some j=>
     obtain⟨hj,hl⟩:=z5g hmp h1 em;have hmem:(x,NameKind.free)∈scope.names:=_ai hl;have hv:O[j]? = some (some v):=by
      simp only[_a6]at h2';cases eO:O[j]? with
      | none=>rw[eO]at h2';cases h2' | some o=>rw[eO]at h2';exact h2'
     obtain⟨m,hn,hlook⟩:=I.loc;have kx:X.env.kindOf x=some .cell\/X.env.kindOf x=some .free:=hfr _ hmem rfl;obtain⟨u,r,L⟩:=hlook j x v hj hv (by rcases kx with k | k;exact .inr (.inl k);exact .inr (.inr k));refine⟨u,r,.inr ?_⟩;rcases L with⟨k,_⟩ | ⟨_,c,hc,hcell⟩;·rcases kx with k' | k'<;>(rw[k]at k';cases k')
     ·have ncell:(x,NameKind.cell)∉scope.names:=λz=>by
       have a:=hnm _ z;rw[hl]at a;cases a
      refine⟨?_,c,?_,hcell.keeps keep⟩
      ·rcases qO (env:=X.env) hl with q | ⟨_,q⟩;·exact .inr q
       ·exact .inl q
      ·show (cellsFrom (s.heap.objs.size+1) scope.names []++z2L X.env scope.names []).lookup x=some c;rw[_bR];cases e:(cellsFrom (s.heap.objs.size+1) scope.names []).lookup x with
       | some c'=> exact absurd ((ui _ _ _ (_ai e)).resolve_left (by simp)) ncell | none=>
        obtain⟨c2,q⟩:=z2b (env:=X.env) scope.names [] hmem ⟨c,hc⟩;have q2:=hclo x c2 q;rw[hc]at q2;cases q2;simpa using q
 ·rcases zbA x c h with⟨_,q,_⟩ | q;·exact⟨_,q⟩
  ·obtain⟨v,z⟩:=I.cell x c q;exact⟨v,z.keeps keep⟩
 ·rcases zbA x c h with⟨_,_,l⟩ | q;·exact I.hok.fresh (by omega)
  ·exact I.freeC x c q
 ·unfold inner;rw[_o];exact z2g hmp
end
section
variable {M:Model}{A:Around}{E:Value->Shared->Prop}{s:Shared}
theorem z1j{scope:Scope}{env:Env}{cl:List (Str×Addr)}{Q:Env->Shared->Prop} (h:Q {scope:=scope,locals:=s.heap.objs.size,globals:=env.globals,cells:=cellsFrom (s.heap.objs.size+1) scope.names cl,qual:=env.qual,func:=none,code:=env.code,frame:=env.frame,builtins:=env.builtins} {s with heap:=pushCells (s.heap.push {cls:=.type "dict",data:=.dict #[]}) scope.names}): wpAny M A (newFunctionEnv scope env.globals cl [] env.qual none .none (some env)) Q E s:=by
 simp only[newFunctionEnv,_cZ,_N];refine _a (wpAny_alloc ?_);refine _a (wpAny_layCells _ (λname kind cells=>by cases hkc:kind==NameKind.cell<;>simp[hkc]) _ _ _ _ ?_);rw[show ({s with heap:=s.heap.push {cls:=.type "dict",data:=.dict #[]}}:Shared).heap.objs.size=s.heap.objs.size+1 from _aw ..];refine _a ?_;rw[List.forIn_nil];exact _c (_c h)
end
section
variable {prog:Program}{w:World}{A:Around}{E:Value->Shared->Prop}{R:Result->Shared->Prop}{s:Shared}
theorem z3G{elt target iter:Expr}{ifs:List Expr}{scope:Scope}{pos:Pos}{it acc:Value}{env:Env}(I:Nat->Shared->Prop) (turn:∀n s,I n s->wpAny (model prog w) A (pyNext it) (λr s₁=>match r with
   | none=>R (.ok .next) s₁ | some v=>wpAny (model prog w) A (letOwnedTupleGo target it v) (λ_ s₁'=>wpAny (model prog w) A (assign target env v) (λ_ s₂=> wpAny (model prog w) A (forIn ifs true λc r=>if r=true then do let ok <- isTrue c env (eval c env);pure (ForInStep.yield ok) else pure (ForInStep.yield r)) (λok s₃=> if ok=true then wpAny (model prog w) A (eval elt env) (λx s₄=> wpAny (model prog w) A (call (.builtin "list.append") [acc,x]) (λ_ s₅=>∃m,m<n/\I m s₅) (λ_ _=>False) s₄) (λ_ _=>False) s₃ else ∃m,m<n/\I m s₃) (λ_ _=>False) s₂) (λ_ _=>False) s₁') (λ_ _=>False) s₁) (λ_ _=>False) s) (n:Nat)(h:I n s): codeAny (model prog w) A (.compLoop (.ListComp elt [⟨target,iter,ifs,0⟩] scope pos) 0 it acc env) R s:=by
 refine codeAny_loop rfl I (λn s hI=>?_) n h;show wpAny _ A ((compTurn (.ListComp elt [⟨target,iter,ifs,0⟩] scope pos) 0 it acc env).onRaise (λx=>do noteFrame x env;theTreesLotGoes x)) _ _ s;refine wpAny_noted ?_;rw[compTurn_list];refine _a (_aM (_a (_z (turn n s hI) (λr s₁ h₁=>?_) λ_ _ h'=>h'.elim)));cases r with
 | none=>exact _c h₁ | some v=>
  refine _a (_z h₁ (λ_ s₁' h₁'=>?_) λ_ _ h'=>h'.elim);refine _a (_z h₁' (λ_ s₂ h₂=>_a (_z h₂ (λok s₃ h₃=>?_) λ_ _ h'=>h'.elim)) λ_ _ h'=>h'.elim);cases ok with
  | false=>exact _c ⟨rfl,h₃⟩ | true=> exact _a (_a (_z h₃ (λx s₄ h₄=>_a (_z h₄ (λ_ s₅ h₅=>_c (_c ⟨rfl,h₅⟩)) λ_ _ h'=>h'.elim)) λ_ _ h'=>h'.elim))
end
def z5m(X:Cx)(ifs:List Expr)(t:TT):Prop:= ∀(pins:List (Addr×Obj))(s:Shared)(O:St)(H:Hp)(Q:Bool->Hp->Prop),Inv X pins O H s->t O H Q-> wpAny (model X.prog X.w) X.A (forIn ifs true λc r=>if r=true then do let ok <- isTrue c X.env (eval c X.env);pure (ForInStep.yield ok) else pure (ForInStep.yield r)) (TP X pins O Q) X.xe s
theorem zas{X:Cx}:z5m X [] (λ_ H Q=>Q true H):=λ_ _ _ H _ I h=>wpAny_tests_nil ⟨H,I,h⟩
theorem zaB{X:Cx}{c:Expr}{t:TT}(h:PT X c t):z5m X [c] t:=λpins s O H Q I hq=>wpAny_tests_one (h pins s O H Q I hq)
theorem Inv.track {X:Cx} {pins:List (Addr×Obj)} {O:St} {H:Hp} {s:Shared} {a:Addr} {o:HO} (I:Inv X pins O H s) (f:z25 X pins H a) (new:yN X.prog X.w (upd H a o) s.heap a o):Inv X pins O (upd H a o) s:=by
 obtain⟨f0,f1,f2,f3,f4,f5⟩:=f;have hs:HOk X.prog X.w (upd H a o) s.heap:=λb u e=>by
  by_cases hb:b=a;·subst hb;rw[zu]at e;cases e;exact new
  ·rw[zg hb]at e;exact (I.hok b u e).stay (λ_ _ _ q=>q) (λc q=>by rw[zg (yz q f0)];exact q) λc xs q=>by rw[zg (yz q f0)];exact q
 exact I.step (h':=s.heap) (g':=s.gens) (d':=s.drawn) (t':=s.toks) (ch:=[a]) (λb hb=>by
  have e:b=a:=by simpa using hb
  subst e;exact⟨f3,f1,f4,f5⟩) (λb o _ _ _ e _=>e) (λb o _ _ _ e _=>⟨o.slots,e⟩) (λb o hb _ n=>by rw[zg (λz=>hb (by simp[z]))];exact n) (λb o _ e=>⟨o,e⟩) (λb xs q=>by rw[zg (yz q f0)];exact q) (λb u xs q=>by rw[zg (yz q f0)];exact q) (λb ps q=>⟨#[],by rw[zg (yz q f0),q];simp⟩) (λ_ q=>q) hs I.bare
def zaA(wi:TI)(mp:List (Option Nat))(g:TG)(ti:TT)(te:TE):TE:=λO H Q=>wi O H λJ H1=>∃W:Nat->Nat->List V->Hp->Prop,(∃m,W 0 m [] H1)/\∀i m ys H,W i m ys H-> (J.stop i H/\ys.length<=sizeLine/\∀p,H p=none->Q (.ref p) (upd H p (.lst ys)))\/ (J.go i H/\∀x H',J.yld i H x H'->g x (inner mp O) H' λO2 H2=>(O2.length=(inner mp O).length/\∀(i:Nat) v,(inner mp O)[i]? = some (some v)->O2[i]? = some (some v))/\ ti O2 H2 λb H3=>if b=true then te O2 H3 λy H4=>ys.length<=sizeLine/\∃m',m'<m/\W (i+1) m' (ys++[y]) H4 else ∃m',m'<m/\W (i+1) m' ys H3)
def jn(X:Cx)(pins:List (Addr×Obj))(O:St)(C:Addr)(Q:VK)(acc:Value)(s':Shared):Prop:= ∃v Hf,Inv X pins O Hf s'/\yq v acc/\Q v Hf/\(∃m,s'.heap.Ns C m)/\z25 X pins Hf C
theorem jZ {X:Cx} {tg iter elt:Expr} {ifs:List Expr} {scope:Scope} {pos:Pos} {g:TG} {ti:TT} {te:TE} {N':List Str} {mp:List (Option Nat)} {pins:List (Addr×Obj)} {O:St} {Q:VK} {J:It} {H2:Hp} {s₂:Shared} {it:Addr} {fp:List Addr} {tn:Nat->Heap->Prop} {E:Value->Shared->Prop} {RR:Value->Addr->Result->Shared->Prop} (hc:X.calm=true) (hg:∀ex s H,PG (zp X N' scope ex s H) tg g) (ht:∀ex s H,z5m (zp X N' scope ex s H) ifs ti) (he:∀ex s H,PE (zp X N' scope ex s H) elt te) (hkd:scope.kind=.function) (hnm:∀y∈scope.names,scope.names.lookup y.1=some y.2) (hfr:∀y∈scope.names,y.2=.free->X.env.kindOf y.1=some .cell\/X.env.kindOf y.1=some .free) (hmp:z0s X.N scope.names N' mp=true) (I2:Inv X pins O H2 s₂) (T:zaY X.prog X.w X.K tg J fp it tn) (st2:tn 0 s₂.heap) (f2:∀b∈fp,z25 X pins H2 b) (W:Nat->Nat->List V->Hp->Prop) (w0:∃m,W 0 m [] H2) (turn:∀i m ys H,W i m ys H-> (J.stop i H/\ys.length<=sizeLine/\∀p,H p=none->Q (.ref p) (upd H p (.lst ys)))\/ (J.go i H/\∀x H',J.yld i H x H'->g x (inner mp O) H' λO2 H2=>(O2.length=(inner mp O).length/\∀(i:Nat) v,(inner mp O)[i]? = some (some v)->O2[i]? = some (some v))/\ ti O2 H2 λb H3=>if b=true then te O2 H3 λy H4=>ys.length<=sizeLine/\∃m',m'<m/\W (i+1) m' (ys++[y]) H4 else ∃m',m'<m/\W (i+1) m' ys H3)) (hRR:∀acc C s',jn X pins O C Q acc s'->RR acc C (.ok .next) s'): wpAny (model X.prog X.w) X.A (newList []) (λacc s₃=>wpAny (model X.prog X.w) X.A (newFunctionEnv scope X.env.globals (z2L X.env scope.names []) [] X.env.qual none .none (some X.env)) (λcenv s₄=> codeAny (model X.prog X.w) X.A (.compStart (.ListComp elt [⟨tg,iter,ifs,0⟩] scope pos) 0 (.ref it) acc {cenv with scope:=relabel scope X.env}) (RR acc cenv.locals) s₄) E s₃) E s₂:=by
 refine _L ?_;have hf2:H2 s₂.heap.objs.size=none:=I2.hok.fresh (_f _);have fA:z25 X pins H2 s₂.heap.objs.size:=I2.fpOk (_f _) hf2;generalize hacc:s₂.heap.objs.size=acc at hf2 fA ⊢;have I3:Inv X pins O H2 {s₂ with heap:=s₂.heap.push {cls:=.type "list",data:=.seq ([]:List Value).toArray}}:=I2.kept (t':=s₂.toks) λb o e=>_e _ e;have ha3:(s₂.heap.push {cls:=.type "list",data:=.seq ([]:List Value).toArray}).get? acc=some (LCg.lst []):=by rw[<- hacc];exact _t _ rfl
 have sz3:(s₂.heap.push {cls:=.type "list",data:=.seq ([]:List Value).toArray}).objs.size=acc+1:=by rw[_aw,hacc]
 have kp3:∀b o,s₂.heap.get? b=some o->(s₂.heap.push {cls:=.type "list",data:=.seq ([]:List Value).toArray}).get? b=some o:=λb o e=>_e _ e;show wpAny _ _ _ _ _ {s₂ with heap:=s₂.heap.push {cls:=.type "list",data:=.seq ([]:List Value).toArray}};generalize hs3:({s₂ with heap:=s₂.heap.push {cls:=.type "list",data:=.seq ([]:List Value).toArray}}:Shared)=s₃ at I3 ⊢;have ha3':s₃.heap.get? acc=some (LCg.lst []):=by rw[<- hs3];exact ha3
 have sz3':s₃.heap.objs.size=acc+1:=by rw[<- hs3];exact sz3
 have kp3':∀b o,s₂.heap.get? b=some o->s₃.heap.get? b=some o:=by rw[<- hs3];exact kp3
 have flt:∀b∈fp,b<acc:=λb hb=>by
  obtain⟨o,e,_⟩:=T.obj 0 _ st2 b hb;rw[<- hacc];exact _r e
 have fne:∀b∈fp,b≠acc:=λb hb=>_G (flt b hb);have tn3:tn 0 s₃.heap:=T.keep 0 _ _ st2 λb hb o e=>kp3' b o e;refine z1j ?_;rw[xW];have hex:∀b∈acc::fp,b<s₃.heap.objs.size/\H2 b=none/\b≠X.env.locals/\b∉X.fs/\(b∈X.ex\/X.s₀.heap.objs.size<=b)/\(∀x c,X.env.cells.lookup x=some c->c≠b):=λb hb=>by
  rcases _h.mp hb with z | hb
  ·subst z;exact⟨by rw[sz3'];exact _bK _,hf2,fA.2.1,fA.2.2.1,fA.2.2.2.1,fA.2.2.2.2.1⟩
  ·have q:=f2 b hb;exact⟨by rw[sz3'];exact _aN (flt b hb),q.1,q.2.1,q.2.2.1,q.2.2.2.1,q.2.2.2.2.1⟩
 have I4:=z20 (N':=N') (mp:=mp) (ex:=acc::fp) (s1:={s₃ with heap:=pushCells (s₃.heap.push {cls:=.type "dict",data:=.dict #[]}) scope.names}) I3 hkd hnm hfr hmp hex rfl rfl rfl;have kp4:∀b o,s₃.heap.get? b=some o->(pushCells (s₃.heap.push {cls:=.type "dict",data:=.dict #[]}) scope.names).get? b=some o:=λb o e=>_cy _ _ b o (_e _ e);generalize hs4:({s₃ with heap:=pushCells (s₃.heap.push {cls:=.type "dict",data:=.dict #[]}) scope.names}:Shared)=s₄ at I4 ⊢;have ha4:s₄.heap.get? acc=some (LCg.lst []):=by rw[<- hs4];exact kp4 _ _ ha3'
 have tn4:tn 0 s₄.heap:=T.keep 0 _ _ tn3 λb hb o e=>by rw[<- hs4];exact kp4 b o e
 have Cne:acc≠s₃.heap.objs.size:=by rw[sz3'];exact _G (_bK _)
 have celln:∀b∈acc::fp,∀x c,(z5e X scope s₃.heap.objs.size).cells.lookup x=some c->c≠b:=λb hb=>(I4.ok.exf b hb).2;have stat:∀{H':Hp} {o:Obj},(∀b∈fp,H' b=none)->∀b∈fp,z25 (zp X N' scope (acc::fp) s₃ H2) [(acc,o)] H' b:=λ{H' o} hn b hb=> ⟨hn b hb,_G (by show b<s₃.heap.objs.size;rw[sz3'];exact _aN (flt b hb)),λhf=>I4.ok.exfs b (_C _ hb) hf,.inl (_C _ hb),celln b (_C _ hb),λp hp=>by
   have e:p=(acc,o):=by simpa[zp] using hp
   rw[e];exact _a1 (fne b hb)⟩;have pinA:∀{O':St} {H':Hp} {s':Shared} {its:List Value},Inv (zp X N' scope (acc::fp) s₃ H2) [] O' H' s'->H' acc=none->s'.heap.get? acc=some (LCg.lst its)->Inv (zp X N' scope (acc::fp) s₃ H2) [(acc,LCg.lst its)] O' H' s':=λ{O' H' s' its} J' n' e'=> J'.pins_of λp hp=>by
   have e:p=(acc,LCg.lst its):=by simpa using hp
   subst e;refine⟨e',n',Cne,λhf=>I4.ok.exfs acc _U hf,λv z=>?_⟩;have z':Data.seq _ _=Data.cell v:=z;cases z'
 obtain⟨m0,w0⟩:=w0;have loop:codeAny (model X.prog X.w) X.A (.compLoop (.ListComp elt [⟨tg,iter,ifs,0⟩] scope pos) 0 (.ref it) (.ref acc) (z5e X scope s₃.heap.objs.size)) (RR (.ref acc) s₃.heap.objs.size) s₄:=by
  refine z3G (λn s'=>∃i ys its H',Inv (zp X N' scope (acc::fp) s₃ H2) [] (inner mp O) H' s'/\tn i s'.heap/\(∀b∈fp,H' b=none)/\H' acc=none/\s'.heap.get? acc=some (LCg.lst its)/\yF ys its/\W i n ys H') ?_ m0 ⟨0,[],[],H2,I4,tn4,λb hb=>(f2 b hb).1,hf2,ha4,.nil,w0⟩;rintro n s5 ⟨i,ys,its,H5,I5,tn5,n5,na5,ea5,rv5,w5⟩;have I5':=pinA I5 na5 ea5;rcases turn i n ys H5 w5 with⟨stop,hz,q⟩ | ⟨go,step⟩
  ·refine _z (T.done (zp X N' scope (acc::fp) s₃ H2) rfl rfl rfl hc i _ s5 _ H5 (λ_ _=>False) I5' (stat n5) tn5 stop) (λr s6 ⟨hr,I6⟩=>?_) λ_ _ z=>z;subst hr;have ea6:=(I6.pin (acc,LCg.lst its) (by simp)).1;have un:Un (frs X.stack) (acc::fp) H2 H5 s₃.heap s6.heap:=I6.base;have I7:Inv X pins O H5 s6:=I3.call' (s':=s6) (I6.os) un I6.hok I6.bare λb hb=>by
    rcases _h.mp hb with z | hb;·subst z;exact⟨fA.2.2.2.1,fA.2.1,fA.2.2.2.2.1,fA.2.2.2.2.2⟩
    ·exact⟨(f2 b hb).2.2.2.1,(f2 b hb).2.1,(f2 b hb).2.2.2.2.1,(f2 b hb).2.2.2.2.2⟩
   have C7:z25 X pins H5 s₃.heap.objs.size:=I3.fpOk (_f _) I6.free;refine hRR _ _ s6 ⟨.ref acc,upd H5 acc (.lst ys),I7.track ⟨na5,fA.2⟩ ?_,rfl,q acc na5,?_,?_,C7.2⟩;·exact⟨hz,its,_,rv5,ea6⟩
   ·obtain⟨m,hm,_⟩:=I6.loc;exact⟨m,hm⟩
   ·rw[zg (_a1 Cne)];exact I6.free
  ·refine _z (T.item (zp X N' scope (acc::fp) s₃ H2) rfl rfl rfl hc i _ s5 _ H5 (λ_ _=>False) I5' (stat n5) tn5 go) (λr s6 ⟨u,hr,h6⟩=>?_) λ_ _ z=>z;subst hr;refine _z h6 (λ_ s7 ⟨x,H7,I7,r7,y7,tn7,n7⟩=>?_) λ_ _ z=>z;have I7':=I7.pinned (stat n7) (T.obj _ _ tn7);refine _z (hg _ _ _ _ s7 (inner mp O) H7 x u _ I7' r7 (step x H7 y7)) (λ_ s8 ⟨O8,H8,I8,⟨kl,kv⟩,q8⟩=>?_) λ_ _ z=>z;refine _z (ht _ _ _ _ s8 O8 H8 _ I8 q8) (λb s9 ⟨H9,I9,q9⟩=>?_) λ_ _ z=>z;have pinB:∀{O':St} {H':Hp} {s':Shared},Inv (zp X N' scope (acc::fp) s₃ H2) ([(acc,LCg.lst its)]++z1V fp s7.heap) O' H' s'->(∀b∈fp,H' b=none)/\H' acc=none/\s'.heap.get? acc=some (LCg.lst its)/\tn (i+1) s'.heap/\∀b∈fp,∀o,s7.heap.get? b=some o->s'.heap.get? b=some o:=λ{O' H' s'} J'=>by
    have z:=J'.pin (acc,LCg.lst its) (by simp[zp]);have zz:∀b∈fp,∀o,s7.heap.get? b=some o->s'.heap.get? b=some o/\H' b=none:=λb hb o e=>by
     have y:=J'.pin (b,o) (_x _ (_x _ (vZ hb e)));exact⟨y.1,y.2.1⟩
    refine⟨λb hb=>?_,z.2.1,z.1,T.keep _ _ _ tn7 λb hb o e=>(zz b hb o e).1,λb hb o e=>(zz b hb o e).1⟩;obtain⟨o,e,_⟩:=T.obj _ _ tn7 b hb;exact (zz b hb o e).2
   cases b with
   | false=>
    rw[_j (by decide)]at q9 ⊢;obtain⟨m',lt,w9⟩:=q9;obtain⟨z1,z2,z3,z4,_⟩:=pinB I9;exact⟨m',lt,i+1,ys,its,H9,(I9.pins_of (pins':=[]) (λp hp=>absurd hp (by simp))).weak kl.symm kv,z4,z1,z2,z3,rv5,w9⟩ | true=>
    rw[_g rfl]at q9 ⊢;refine _z (he _ _ _ _ s9 O8 H9 _ I9 q9) (λyv s10 ⟨y,H10,I10,r10,hz,m',lt,w10⟩=>?_) λ_ _ z=>z;obtain⟨z1,z2,z3,z4,_⟩:=pinB I10;have zl:its.toArray.size<=sizeLine:=by rw[_k,<- rv5.length];exact hz
    refine append_at (hsz:=zl) z3 λh11 sb ea11=>?_;have I10':=(I10.pins_of (pins':=[]) (λp hp=>absurd hp (by simp))).weak kl.symm kv;have I11:Inv (zp X N' scope (acc::fp) s₃ H2) [] (inner mp O) H10 {s10 with heap:=h11}:=I10'.turned (t':=s10.toks) (λb o hb e=>(sb.2 b hb).trans e) z2 Cne (.inl _U) (celln acc _U) (λp hp=>absurd hp (by simp[zp]));exact⟨m',lt,i+1,ys++[y],its++[yv],H10,I11,T.keep _ _ _ z4 (λb hb o e=>(sb.2 b (fne b hb)).trans e),z1,z2,ea11.trans (_ba some (LCg.lst_snoc its yv)),rv5.append (.cons r10 .nil),w10⟩
 exact codeAny_compStart_list loop (T.self _ 0 _ _ _ tn4 loop)
section
variable {X:Cx}{tg iter elt:Expr}{ifs:List Expr}{scope:Scope}{pos spos py:Pos}{wi:TI}{g:TG}{ti:TT}{te:TE}{N':List Str}{mp:List (Option Nat)}
theorem uF{pins:List (Addr×Obj)}{O:St}{H:Hp}{s:Shared}{h':Heap}{C:Addr}(I:Inv X pins O H s)(f:z25 X pins H C)(sb:Heap.SameBut C s.heap h'):Inv X pins O H {s with heap:=h'}:= I.turned (t':=s.toks) (λb o hb e=>(sb.2 b hb).trans e) f.1 f.2.1 f.2.2.2.1 f.2.2.2.2.1 f.2.2.2.2.2
theorem zce (N':List Str) (mp:List (Option Nat)) (hc:X.calm=true) (hi:PI X tg iter wi) (hg:∀ex s H,PG (zp X N' scope ex s H) tg g) (ht:∀ex s H,z5m (zp X N' scope ex s H) ifs ti) (he:∀ex s H,PE (zp X N' scope ex s H) elt te) (hkd:scope.kind=.function) (hnm:∀y∈scope.names,scope.names.lookup y.1=some y.2) (hfr:∀y∈scope.names,y.2=.free->X.env.kindOf y.1=some .cell\/X.env.kindOf y.1=some .free) (hmp:z0s X.N scope.names N' mp=true) (hs:∀x,foldedSetIterable iter X.env x=pure x:=by intro _;rfl):PE X (.ListComp elt [⟨tg,iter,ifs,0⟩] scope pos) (zaA wi mp g ti te):=by
 intro pins s O H Q I h;rw[eval_ListComp];refine _bm (use:=none) rfl hs (wV λy hy hf=>I.ok.has _ (hfr y hy hf)) hkd (λy hy hl=>by rw[hnm y hy,hl]) (thn (hi pins s O H _ I h) λxv s₁ h₁=>thn h₁ λitv s₂ h₂=>?_);obtain⟨it,fp,tn,J,H2,e,I2,T,st2,f2,W,w0,turn⟩:=h₂;subst e;refine jZ (N':=N') (mp:=mp) (O:=O) (pins:=pins) (Q:=Q) (RR:=λacc C=>compPost (model X.prog X.w) X.A X.xe none (EP X pins O Q) acc C) hc hg ht he hkd hnm hfr hmp I2 T st2 f2 W w0 turn ?_;rintro acc C s' ⟨v,Hf,I3,r,q,⟨m,hm⟩,f⟩;exact⟨m,hm,λh' sb=>⟨v,Hf,uF I3 f sb,r,q⟩⟩
theorem z6C {i:Nat} {y:Str} (N':List Str) (mp:List (Option Nat)) (hN:X.N.Nodup) (hy:X.N[i]? = some y) (hyl:Loc X.env.scope y) (hc:X.calm=true) (hi:PI X tg iter wi) (hg:∀ex s H,PG (zp X N' scope ex s H) tg g) (ht:∀ex s H,z5m (zp X N' scope ex s H) ifs ti) (he:∀ex s H,PE (zp X N' scope ex s H) elt te) (hkd:scope.kind=.function) (hnm:∀y∈scope.names,scope.names.lookup y.1=some y.2) (hfr:∀y∈scope.names,y.2=.free->X.env.kindOf y.1=some .cell\/X.env.kindOf y.1=some .free) (hmp:z0s X.N scope.names N' mp=true) (hs:∀x,foldedSetIterable iter X.env x=pure x:=by intro _;rfl) (hsw:swapsWith (.ListComp elt [⟨tg,iter,ifs,0⟩] scope pos) (some (.Name y py)) spos.line X.env=pure true:=by rfl) (hf:X.fn y=true\/X.env.scope.names.lookup y=some .local:=by first | exact .inl rfl | exact .inr rfl | assumption): PS X (.Assign [.Name y py] (.ListComp elt [⟨tg,iter,ifs,0⟩] scope pos) spos) (zfQ (zaA wi mp g ti te) (kY i)):=by
 intro pins s O H D I h;rw[_ci _ _ _ _ hsw];refine _a (_aM (_a ?_));show wpAny _ X.A (do let _ <- comprehension (.ListComp elt [⟨tg,iter,ifs,0⟩] scope pos) scope X.env _ (newList []) false (eval iter X.env) (some (assign (.Name y py) X.env))) _ _ s;refine _a (_z (_bm (use:=some (assign (.Name y py) X.env)) (Q:=λ_ s'=>SP X pins D .next s') rfl hs (wV λy hy hf=>I.ok.has _ (hfr y hy hf)) hkd (λy hy hl=>by rw[hnm y hy,hl]) (thn (hi pins s O H _ I h) λxv s₁ h₁=>thn h₁ λitv s₂ h₂=>?_)) (λ_ s' hq=>_c (_c hq)) λ_ _ e=>e);obtain⟨it,fp,tn,J,H2,e,I2,T,st2,f2,W,w0,turn⟩:=h₂;subst e;refine jZ (N':=N') (mp:=mp) (O:=O) (pins:=pins) (Q:=λv H'=>D.nx (O.set i (some v)) H') (RR:=λacc C=>compPost (model X.prog X.w) X.A X.xe (some (assign (.Name y py) X.env)) (λ_ s'=>SP X pins D .next s') acc C) hc hg ht he hkd hnm hfr hmp I2 T st2 f2 W w0 turn ?_;rintro acc C s' ⟨v,Hf,I3,r,q,⟨m,hm⟩,f⟩;refine _b1 (jE I3 hN hy hyl r (λs'' I4 ⟨a,sb,ha⟩=>?_) hf);have hC:C≠a:=by
  rcases ha with z | z;·rw[z];exact f.2.1
  ·exact _a1 (f.2.2.2.2.1 y a z)
 exact⟨m,hm.sameBut sb hC,λh' sb'=>⟨_,Hf,uF I4 f sb',q⟩⟩
end
section
variable {κ:Type} [DecidableEq κ]
noncomputable def qk(kvs:List (κ×V))(k:κ):Option V:=(kvs.find? λkv=>decide (kv.1=k)).map (·.2)
noncomputable def z36(kvs:List (κ×V))(k:κ)(v:V):List (κ×V):= if (kvs.any λkv=>decide (kv.1=k))=true then kvs.map (λkv=>if kv.1=k then (kv.1,v) else kv) else kvs++[(k,v)]
theorem z5G{k:κ}:qk ([]:List (κ×V)) k=none:=rfl
theorem wf{p:κ×V}{r:List (κ×V)}{k:κ}(e:p.1=k):qk (p::r) k=some p.2:=by simp[qk,_by,e]
theorem yI{p:κ×V}{r:List (κ×V)}{k:κ}(e:¬ p.1=k):qk (p::r) k=qk r k:=by simp[qk,_by,e]
theorem z2w(k:κ):∀kvs:List (κ×V),(kvs.any λkv=>decide (kv.1=k))=(qk kvs k).isSome
 | []=>rfl | p::r=>by
  rw[List.any_cons];by_cases e:p.1=k;·simp only[wf e,_aa e,Bool.true_or,_cZ]
  ·rw[yI e,_O e,Bool.false_or];exact z2w k r
theorem z46(k j:κ)(y:V):∀kvs:List (κ×V),qk kvs k=none->qk (kvs++[(k,y)]) j=if j=k then some y else qk kvs j
 | [],_=>by
  by_cases e:k=j;·rw[_g e.symm];exact wf (p:=(k,y)) e
  ·rw[_j (λz=>e z.symm)];exact yI (p:=(k,y)) e | p::r,hn=>by
  rw[_X];have hk:¬ p.1=k:=λz=>by rw[wf z]at hn;cases hn
  rw[yI hk]at hn;have ih:=z46 k j y r hn;by_cases e:p.1=j;·rw[wf e,wf e,_j (λz=>hk (e.trans z))]
  ·rw[yI e,yI e,ih]
theorem z1i(kvs:List (κ×V))(k:κ)(v:V):(z36 kvs k v).length<=kvs.length+1:=by
 unfold z36;split;·rw[_o];omega
 ·rw[_H,_s,_F];omega
theorem z2v{kvs:List (κ×V)}{k:κ}(v:V)(h:qk kvs k=none):z36 kvs k v=kvs++[(k,v)]:=by
 unfold z36;rw[z2w,h];exact _j (by decide)
theorem z93.getD{o:Option V}{u:Option Value}{d:V}{d':Value}(r:z93 o u)(rd:yq d d'):yq (o.getD d) (u.getD d'):=by cases o with
 | none=>cases u with
  | none=>exact rd | some _=>exact (show False from r).elim
 | some _=>cases u with
  | none=>exact (show False from r).elim | some _=>exact r
theorem KV.val{kvs:List (κ×V)}{vs:List (κ×Value)}(r:KV kvs vs)(k:κ):z93 (qk kvs k) (valueAt vs k):=by
 unfold KV at r;induction r with
 | nil=>exact True.intro | @cons p q ps qs h t ih=>
  obtain⟨h1,h2⟩:=h;by_cases e:p.1=k
  ·have e':q.1=k:=h1.symm.trans e;have b:valueAt (q::qs) k=some q.2:=by simp[valueAt,_by,e']
   rw[wf e,b];exact h2
  ·have e':¬ q.1=k:=λz=>e (h1.trans z);have b:valueAt (q::qs) k=valueAt qs k:=by simp[valueAt,_by,e']
   rw[yI e,b];exact ih
theorem KV.any{kvs:List (κ×V)}{vs:List (κ×Value)}(r:KV kvs vs)(k:κ):(kvs.any λkv=>decide (kv.1=k))=vs.any λkv=>decide (kv.1=k):=by
 unfold KV at r;induction r with
 | nil=>rfl | cons h t ih=>rw[List.any_cons,List.any_cons,ih,h.1]
theorem KV.repl{kvs:List (κ×V)}{vs:List (κ×Value)}(r:KV kvs vs)(k:κ){y:V}{u:Value}(ry:yq y u): KV (kvs.map λkv=>if kv.1=k then (kv.1,y) else kv) (vs.map λkv=>if kv.1=k then (kv.1,u) else kv):=by
 unfold KV at r ⊢;induction r with
 | nil=>exact .nil | @cons p q ps qs h t ih=>
  rw[_l,_l];refine .cons ?_ ih;obtain⟨h1,h2⟩:=h;by_cases e:p.1=k;·rw[_g e,_g (h1.symm.trans e)];exact⟨h1,ry⟩
  ·rw[_j e,_j (λz=>e (h1.trans z))];exact⟨h1,h2⟩
theorem KV.put{kvs:List (κ×V)}{vs:List (κ×Value)}(r:KV kvs vs)(k:κ){y:V}{u:Value}(ry:yq y u):KV (z36 kvs k y) (stored vs k u):=by
 unfold z36 stored;rw[r.any k];by_cases e:(vs.any λkv=>decide (kv.1=k))=true;·rw[_g e,_g e];exact r.repl k ry
 ·rw[_j e,_j e];exact Paired.snoc r ⟨rfl,ry⟩
theorem KV.length{kvs:List (κ×V)}{vs:List (κ×Value)}(r:KV kvs vs):kvs.length=vs.length:=_dg r
end
theorem z6Y{P:Program}{w:World}{k:Key}{u:Value}(r:yq (kV k) u):(yJ P w).is k u=true:=by cases k with
 | inl i=>obtain⟨t,e⟩:=(show ∃t,u=Value.int i t from r);subst e;exact z4C P w i t | inr x=>obtain⟨t,e⟩:=(show ∃t,u=Value.str x t from r);subst e;exact z4Q P w x t
theorem z3C{P:Program}{w:World}:∀{ks:List Key}{us:List Value},yF (ks.map kV) us->ItemsAre (yJ P w) ks us
 | [],_,r=>by rw[List.map_nil]at r;cases r;exact .nil | k::ks,_,r=>by
  rw[_l]at r;cases r with | cons h t=>exact .cons (z6Y h) (z3C t)
abbrev KT(H:Hp):List (List Key×V)->List (List Key×Addr×Value)->Prop:=Paired λp q=>p.1=q.1/\H q.2.1=some (.tup (p.1.map kV))/\yq p.2 q.2.2
theorem KT.val{H:Hp}{kvs:List (List Key×V)}{xs:List (List Key×Addr×Value)}(r:KT H kvs xs)(k:List Key):z93 (qk kvs k) ((atKey xs k).map (·.2)):=by induction r with
 | nil=>exact True.intro | @cons p q ps qs h t ih=>
  obtain⟨h1,_,h2⟩:=h;by_cases e:p.1=k
  ·have e':q.1=k:=h1.symm.trans e;have b:atKey (q::qs) k=some q.2:=by simp[atKey,_by,e']
   rw[wf e,b];exact h2
  ·have e':¬ q.1=k:=λz=>e (h1.trans z);have b:atKey (q::qs) k=atKey qs k:=by simp[atKey,_by,e']
   rw[yI e,b];exact ih
section
variable {P:Program}{w:World}{H:Hp}{h:Heap}{a:Addr}
theorem zan{u:HO}(ok:HOk P w H h)(e:Rd H a u):yN P w H h a u:=e.ok ok
theorem z92{kvs:List (Key×V)}(ok:HOk P w H h)(e:Rd H a (.dK kvs)):kvs.length<=sizeLine/\(a==sysModules)=false/\∃vs,KV kvs vs/\h.DictOf (yJ P w) a vs:= show yN P w H h a (.dK kvs) from zan ok e
theorem zgn{kvs:List (Key×V)}(ok:HOk P w H h)(e:H a=some (.dK kvs)):kvs.length<=sizeLine/\(a==sysModules)=false/\∃vs,KV kvs vs/\h.DictOf (yJ P w) a vs:=z92 ok (.inl e)
theorem z8x{ks:List Key}(ok:HOk P w H h)(e:H a=some (.tup (ks.map kV))):(tupleKind (yJ P w)).is h ks a:=by
 obtain⟨_,its,r,o,h1,h2,_,n,h3⟩:=(show yN P w H h a (.tup (ks.map kV)) from ok a _ e);exact⟨o,its.toArray,n,h1,h2,h3,by simpa using z3C r⟩
theorem zat{kvs:List (List Key×V)}(ok:HOk P w H h)(e:Rd H a (.dT kvs)):kvs.length<=sizeLine/\(a==sysModules)=false/\ ∃xs,KT H kvs xs/\h.DictOfH (tupleKind (yJ P w)) a xs:=by
 obtain⟨z,y,xs,r,o,es,ep,h1,h2,h3,h4,h5⟩:=(show yN P w H h a (.dT kvs) from zan ok e);refine⟨z,y,xs,r,o,es,ep,h1,h2,h3,h4,λx hx=>?_,h5⟩;have all:∀{l:List (List Key×V)}{m:List (List Key×Addr×Value)},KT H l m->∀x∈m,(tupleKind (yJ P w)).is h x.1 x.2.1:=by
  intro l m q;induction q with
  | nil=>intro x hx;exact nomatch hx | @cons p q ps qs hq t ih=>
   intro x hx;rcases _h.mp hx with e | hx
   ·subst e;exact z8x ok (by rw[<- hq.1];exact hq.2.1)
   ·exact ih x hx
 exact all r x hx
end
def zdR(H:Hp)(a:Addr)(y:V)(r:Option V):Prop:= (∃kvs k,Rd H a (.dK kvs)/\y=kV k/\r=qk kvs k)\/∃kvs k b,Rd H a (.dT kvs)/\y=.ref b/\H b=some (.tup (k.map kV))/\r=qk kvs k
section
variable {X:Cx}{pins:List (Addr×Obj)}{O:St}{H:Hp}{s:Shared}{a:Addr}{y v:V}{u r:Value}{o:Option V}{A:Around}{E:Value->Shared->Prop}
theorem Inv.big(I:Inv X pins O H s):sysModules<s.heap.objs.size:=by
 have h:mainGlobals<s.heap.objs.size:=(I.mod.glob.keeps I.bk).lt;exact Nat.lt_trans (by decide) h
theorem z86 {Q:Value->Shared->Prop} (hu:A.units+1<cLine) (I:Inv X pins O H s) (g:zdR H a y (some v)) (ry:yq y u) (h:∀w' s',Inv X pins O H s'->yq v w'->Q w' s'): wpAny (model X.prog X.w) A (getItem (.ref a) u) Q E s:=by
 rcases g with⟨kvs,k,e,ey,l⟩ | ⟨kvs,k,b,e,ey,eb,l⟩
 ·subst ey;obtain⟨z,hd,vs,rel,dd⟩:=z92 I.hok e;obtain⟨w',hw,rw'⟩:=z93.some_of (v:=v) (o:=valueAt vs k) (by rw[l];exact rel.val k);exact wpAny_getItem_of (z6Y ry) dd.mapOf hw (h w' _ (I.tok _) rw')
 ·subst ey;cases (show u=Value.ref b from ry);obtain⟨z,hd,xs,rel,dd⟩:=zat I.hok e;obtain⟨w',hw,rw'⟩:=z93.some_of (v:=v) (o:=(atKey xs k).map (·.2)) (by rw[l];exact rel.val k);obtain⟨p,hp,hp2⟩:=_A.mp hw;refine wpAny_getItem_heap (tupleKind_room_in1 hu) (z8x I.hok eb) dd hp ?_;rw[hp2];exact h w' _ (I.tok _) rw'
theorem z7j {h':Heap} {t':Nat} {ob:HO} (I:Inv X pins O H s) (mu:Mut (H a)) (hs:Heap.SameBut a s.heap h') (he:∃q,h'.get? a=some q) (new:yN X.prog X.w (upd H a ob) h' a ob): Inv X pins O (upd H a ob) {s with heap:=h',toks:=t'}:= I.write (x:=a) (e:=a) mu (.inl rfl) (λb q hb z=>(hs.2 b hb).trans z) he new
theorem zaH{P:Program}{w:World}{H':Hp}{h':Heap}{kvs:List (Key×V)}{vs:List (Key×Value)}(z:kvs.length<=sizeLine)(hd:(a==sysModules)=false)(rel:KV kvs vs)(dd:h'.DictOf (yJ P w) a vs): yN P w H' h' a (.dK kvs):=⟨z,hd,vs,rel,dd⟩
end
def zgd(i:Expr):Prop:=∀ov iv,subscripted i false ov iv=operate [ov,iv] (getItem ov iv)
theorem zd0{prog:Program}{w:World}{A:Around}{E:Value->Shared->Prop}{s:Shared}{env:Env}{value slice:Expr}{pos:Pos}{T id:String}{Q:Value->Shared->Prop} (hl:typeLookup (.type T) "__getitem__"=pure (some (.builtin id)))(hs:zgd slice) (h:wpAny (model prog w) A (eval value env) (λo s₁=>wpAny (model prog w) A (eval slice env) (λi s₂=>s₂.TypeIs o T/\wpAny (model prog w) A (getItem o i) Q E s₂) E s₁) E s): wpAny (model prog w) A (eval (.Subscript value slice pos) env) Q E s:=by
 refine Subscript_ (_z h (λo s₁ h₁=>_z h₁ (λi s₂ h₂=>?_) λ_ _ x=>x) λ_ _ x=>x);obtain⟨hT,h₂⟩:=h₂;unfold subscriptTail;refine _a ?_;rw[getitemInPython_of_ne hT.not_modules];refine _a (wpAny_specialOf hT hl ?_);have fin:wpAny (model prog w) A (subscripted slice false o i) (λr s₃=>wpAny (model prog w) A (letTemporaryGo value o r >>= λ_=>pure r) Q E s₃) E s₂:=by
  rw[hs o i];exact wpAny_operating (_z h₂ (λr s₃ h₃=>_a (wpAny_letTemporaryGo (_c h₃))) λ_ _ x=>x)
 first
  | exact _c (_a fin) | exact _a (_c (_a fin)) | exact _a fin
theorem z51{X:Cx}{pins:List (Addr×Obj)}{O:St}{H:Hp}{s:Shared}{a:Addr}{y:V}{o:Option V}(I:Inv X pins O H s)(g:zdR H a y o):s.TypeIs (.ref a) "dict":=by
 rcases g with⟨kvs,k,e,_,_⟩ | ⟨kvs,k,b,e,_,_,_⟩
 ·obtain⟨_,_,vs,_,dd⟩:=z92 I.hok e;exact dd.typeIs
 ·obtain⟨_,_,xs,_,dd⟩:=zat I.hok e;exact dd.typeIs
def zfT(td ty:TE):TE:=λO H Q=>td O H λx H1=>ty O H1 λy H2=>∃a v,x=.ref a/\zdR H2 a y (some v)/\Q v H2
section
variable {X:Cx}{o i e value:Expr}{pos pos' tpos:Pos}{td ty tv:TE}
theorem zbv(hu:X.A.units+1<cLine)(ho:PE X o td)(hi:PE X i ty)(hs:zgd i):PE X (.Subscript o i pos) (zfT td ty):=by
 intro pins s O H Q I h;refine zd0 PySem.F.slot_dict_getitem.lookup hs (thn (ho pins s O H _ I h) λu s1 ⟨x,H1,I1,rx,q1⟩=>thn (hi pins s1 O H1 _ I1 q1) λiv s2 ⟨y,H2,I2,ry,a,v,ex,g,q2⟩=>?_);subst ex;obtain rfl:u=Value.ref a:=rx;exact⟨z51 I2 g,z86 hu I2 g ry λw' s3 I3 rw'=>⟨v,H2,I3,rw',q2⟩⟩
end
theorem z9U{P:Program}{w:World}{H:Hp}(h:Heap)(hb:sysModules<h.objs.size):yN P w H (h.push {cls:=.type "dict",data:=.dict #[]}) h.objs.size (.dT []):= ⟨_aZ _,beq_eq_false_iff_ne.mpr (_a1 (_G hb)),[],.nil,_,#[],0,_t _ rfl,⟨rfl,rfl,rfl⟩,rfl,rfl,List.nodup_nil⟩
def zei:TE:=λ_ H Q=>∀p,H p=none->Q (.ref p) (upd H p (.dT []))
section
variable {X:Cx}{pos:Pos}
theorem zav:PE X (.Dict [] [] pos) zei:=λpins s O H Q I h=> wpAny_Dict_empty ⟨.ref s.heap.objs.size,_,I.laid (a:=s.heap.objs.size) (o:=.dT []) (t':=s.toks) (λ_ _ q=>_e _ q) (_f _) (z9U s.heap I.big),rfl,h _ (I.hok.fresh (_f _))⟩
end
structure M2(X:Cx)(o:Expr)(m:Str)(apos:Pos)(e f:Expr)(cpos:Pos):Prop where
 base:attributeBase o m X.env (eval o X.env)=eval o X.env
 few:((backTo cpos (starEach [e,f] X.env)).all (λx=>!x.1)&&(backToKw cpos (keywordEach [] X.env)).all (λx=>x.1.isSome) && decide (([e,f]:List Expr).length+([]:List Keyword).length+(if ([]:List Keyword).isEmpty then 0 else 1)<30))=true
 line:(apos.endLine==cpos.line)=true
 trees:backTo cpos (starEach [e,f] X.env)=[(false,eval e X.env),(false,eval f X.env)]
def IsD(H:Hp)(a:Addr):Prop:=(∃kvs,Rd H a (.dK kvs))\/∃kvs,Rd H a (.dT kvs)
theorem zb7{X:Cx}{pins:List (Addr×Obj)}{O:St}{H:Hp}{s:Shared}{a:Addr}(I:Inv X pins O H s)(d:IsD H a): s.TypeIs (.ref a) "dict"/\(∀b,Value.ref a=.ref b->∃ob,s.heap.get? b=some ob/\ob.dict=none)/\(a==sysModules)=false:=by
 rcases d with⟨kvs,e⟩ | ⟨kvs,e⟩
 ·obtain⟨_,hd,vs,_,dd⟩:=z92 I.hok e;refine⟨dd.typeIs,λb q=>?_,hd⟩;cases q;obtain⟨ob,_,_,h1,h2,_⟩:=dd;exact⟨ob,h1,h2.2.1⟩
 ·obtain⟨_,hd,xs,_,dd⟩:=zat I.hok e;refine⟨dd.typeIs,λb q=>?_,hd⟩;cases q;obtain⟨ob,_,_,h1,h2,_⟩:=dd;exact⟨ob,h1,h2.2.1⟩
section
variable {X:Cx}{pins:List (Addr×Obj)}{O:St}{H:Hp}{s:Shared}{a:Addr}{y d:V}{u r:Value}{o:Option V}{A:Around}{E:Value->Shared->Prop}
theorem zdN{Q:Value->Shared->Prop}(hu:A.units+1<cLine)(I:Inv X pins O H s)(g:zdR H a y o)(ry:yq y u)(rd:yq d r)(h:∀w' s',Inv X pins O H s'->yq (o.getD d) w'->Q w' s'): wpAny (model X.prog X.w) A (call (.builtin "dict.get") [.ref a,u,r]) Q E s:=by
 rcases g with⟨kvs,k,e,ey,l⟩ | ⟨kvs,k,b,e,ey,eb,l⟩
 ·subst ey;obtain⟨z,hd,vs,rel,dd⟩:=z92 I.hok e;refine _dA _bi dd.typeIs _b7 (_bX _ _ _) (meets_dict_get_default (yJ X.prog X.w) a (z6Y ry) hd r) ⟨_,dd.mapOf,h _ _ (I.tok _) ?_⟩;rw[l];exact (rel.val k).getD rd
 ·subst ey;cases (show u=Value.ref b from ry);obtain⟨z,hd,xs,rel,dd⟩:=zat I.hok e;refine _dA _bi dd.typeIs _b7 (_bX _ _ _) (meetsH_dict_get_default (tupleKind (yJ X.prog X.w)) a b hd r) ⟨tupleKind_room_in1 hu,k,xs,z8x I.hok eb,dd,h _ _ (I.tok _) ?_⟩;rw[l];exact (rel.val k).getD rd
end
def zeP(td ty tx:TE):TE:=λO H Q=>td O H λx H1=>∃a,x=.ref a/\IsD H1 a/\ty O H1 λy H2=>tx O H2 λz H3=>∃o,zdR H3 a y o/\Q (o.getD z) H3
section
variable {X:Cx}{o e f:Expr}{apos cpos:Pos}{td ty tx:TE}
theorem z9y(hu:X.A.units+1<cLine)(ho:PE X o td)(he:PE X e ty)(hf:PE X f tx)(m:M2 X o "get" apos e f cpos):PE X (.Call (.Attribute o "get" apos) [e,f] [] cpos) (zeP td ty tx):=by
 intro pins s O H Q I h;refine wpAny_Call_method m.base m.few m.line _bY _bi PySem.F.type_dict_get (thn (ho pins s O H _ I h) λu s1 ⟨x,H1,I1,rx,a,ex,d,q1⟩=>?_);subst ex;obtain rfl:u=Value.ref a:=rx;obtain⟨t1,t2,_⟩:=zb7 I1 d;refine⟨t1,t2,?_⟩;rw[m.trees];refine _b6 rfl (_cr (_bc (thn (he pins s1 O H1 _ I1 q1) λiv s2 ⟨y,H2,I2,ry,q2⟩=> _bc (thn (hf pins s2 O H2 _ I2 q2) λfv s3 ⟨z,H3,I3,rz,ov,g,q3⟩=>_b2 ?_))));exact zdN hu I3 g ry rz λw' s4 I4 rw'=>⟨_,H3,I4,rw',q3⟩
end
end L2
set_option maxHeartbeats 4000000
namespace Dd
open L2
theorem z2O(xs:List Expr)(k:Nat)(p:Pos)(es:List Expr)(env:Env):starEach (.Tuple xs k p::es) env=(false,eval (.Tuple xs k p) env)::starEach es env:=rfl
theorem wD(f:Expr)(xs:List Expr)(ks:List Keyword)(p:Pos)(es:List Expr)(env:Env):starEach (.Call f xs ks p::es) env=(false,eval (.Call f xs ks p) env)::starEach es env:=rfl
theorem z5A(a:Expr)(o:Operator)(b:Expr)(p:Pos)(es:List Expr)(env:Env):starEach (.BinOp a o b p::es) env=(false,eval (.BinOp a o b p) env)::starEach es env:=rfl
theorem qH(a b:Expr)(p:Pos)(es:List Expr)(env:Env):starEach (.Subscript a b p::es) env=(false,eval (.Subscript a b p) env)::starEach es env:=rfl
theorem yB(a:Expr)(g:List Comprehension)(sc:Scope)(p:Pos)(es:List Expr)(env:Env):starEach (.ListComp a g sc p::es) env=(false,eval (.ListComp a g sc p) env)::starEach es env:=rfl
theorem z9l(a:Expr)(o:List CmpOp)(b:List Expr)(p:Pos)(es:List Expr)(env:Env):starEach (.Compare a o b p::es) env=(false,eval (.Compare a o b p) env)::starEach es env:=rfl
theorem z1W(c:Const)(j:Nat)(p:Pos)(es:List Expr)(env:Env):starEach (.Constant c j p::es) env=(false,eval (.Constant c j p) env)::starEach es env:=rfl
theorem zA(x:Str)(p:Pos)(es:List Expr)(env:Env):starEach (.Name x p::es) env=(false,eval (.Name x p) env)::starEach es env:=rfl
theorem zcD(o:UnaryOp)(a:Expr)(p:Pos)(es:List Expr)(env:Env):starEach (.UnaryOp o a p::es) env=(false,eval (.UnaryOp o a p) env)::starEach es env:=rfl
inductive D where | non | bl (b:Bool) | int (i:Int) | str (x:Str) | tup (xs:List D) | lst (xs:List D) | dct | loc (l:Nat) | dlo (l:Nat) | fn (x:Str) | exc (x:Str) | scr (xs:List D)
abbrev Sto:=List (List D)
abbrev Ev:=List (Option D)
inductive R(α:Type) where | ok (a:α)(s:Sto) | ex (c:Str)(s:Sto) | no
noncomputable def R.bind{α β:Type}(r:R α)(k:α->Sto->R β):R β:=match r with
 | .ok a s=>k a s | .ex c s=>.ex c s | .no=>.no
@[simp] theorem R.bind_ok {α β:Type}(a:α)(s:Sto)(k:α->Sto->R β):(R.ok a s).bind k=k a s:=id rfl
abbrev Rb:=@R.bind_ok
noncomputable def D.flat:D->Bool
 | .tup xs=>flats xs | .lst xs=>flats xs | .scr xs=>flats xs | .loc _=>false | .dlo _=>false | _=>true
where flats:List D->Bool
 | []=>true | x::xs=>x.flat&&flats xs
noncomputable def zhk(C a:Addr):HO:=.ext λh=>∃o vs,h.get? a=some o/\o.cls=.ref C/\o.data=.fields vs
structure Gm where
 m:Str->Option Value
 K:W.Frag
noncomputable abbrev gm(X:Cx):Gm:=⟨X.mg,X.K⟩
def IsL(H:Hp)(a:Addr):Prop:=∃vs,H a=some (.lst vs)
def IsC(H:Hp)(a:Addr):Prop:=(∃kvs,H a=some (.dT kvs))\/(∃o kvs,H a=some (.frz o (.dT kvs)))\/(∃kvs,kvs≠[]/\H a=some (.dK kvs))\/∃o kvs,H a=some (.frz o (.dK kvs))
def Own(H:Hp)(Y:List Addr)(b:Addr):Prop:=∃a∈Y,∃kvs k,H a=some (.dK kvs)/\(k,V.ref b)∈kvs
theorem IsL.notC{H:Hp}{a:Addr}(h:IsL H a)(h':IsC H a):False:=by obtain⟨_,e⟩:=h;rcases h' with⟨_,e'⟩ | ⟨_,_,e'⟩ | ⟨_,_,e'⟩ | ⟨_,_,e'⟩<;>rw[e]at e'<;>cases e'
noncomputable def zhI:Key->D
 | .inl i=>.int i | .inr x=>.str x
noncomputable def zhK:V->Option D
 | .int i=>some (.int i) | .bl b=>some (.bl b) | _=>none
noncomputable def z9a:List D->List (List Key×V)->Prop
 | [],kvs=>kvs=[] | d::ds,kvs=>∃k v x r,kvs=(k,v)::r/\zhK v=some x/\d=.tup [.tup (k.map zhI),x]/\z9a ds r
def KL(K:W.Frag)(a:Addr)(xs:List V):Prop:=∃(o:Obj)(its:Array Value)(n:Nat),K.lookup a=some o/\o.cls=.type "list"/\o.dict=none/\o.data=.seq its n/\its.size<=sizeLine/\yF xs its.toList
section
variable (mg:Gm)
mutual
noncomputable def Den(H:Hp)(Y:List Addr):D->V->Prop
 | .non,v=>v=.non | .bl b,v=>v=.bl b | .int i,v=>v=.int i | .str x,v=>v=.str x | .tup ds,v=>∃a vs,v=.ref a/\H a=some (.tup vs)/\zq H Y ds vs | .lst ds,v=>∃a o vs,v=.ref a/\H a=some (.frz o (.lst vs))/\zq H Y ds vs | .dct,v=>∃a,v=.ref a/\H a=some (.dK []) | .loc l,v=>∃a,v=.ref a/\Y[l]? = some a/\IsL H a | .dlo l,v=>∃a,v=.ref a/\Y[l]? = some a/\IsC H a | .fn x,v=>∃a,v=.ref a/\mg.m x=some (.ref a) | .exc x,v=>∃a C,v=.ref a/\mg.m x=some (.ref C)/\H a=some (zhk C a) | .scr ds,v=>∃a vs,v=.ref a/\((∃o,H a=some (.frz o (.lst vs)))\/KL mg.K a vs)/\zq H Y ds vs
noncomputable def zq(H:Hp)(Y:List Addr):List D->List V->Prop
 | [],vs=>vs=[] | d::ds,vs=>∃v r,vs=v::r/\Den H Y d v/\zq H Y ds r
end
noncomputable def wM(H:Hp)(Y:List Addr):List D->List (Key×V)->Prop
 | [],kvs=>kvs=[] | d::ds,kvs=>∃k ys b vs r,kvs=(Sum.inl k,V.ref b)::r/\zq mg H Y ys vs/\((d=.tup [.int k,.lst ys]/\H b=some (.lst vs))\/(d=.tup [.int k,.lst ys,.non]/\∃o,H b=some (.frz o (.lst vs))))/\wM H Y ds r
def z9H(ys:List D):Prop:=∀d∈ys,∃k zs,d=.tup [.int k,.lst zs,.non]
def uc(H:Hp)(Y:List Addr)(xs:List D)(a:Addr):Prop:=(∃vs,H a=some (.lst vs)/\zq mg H Y xs vs)\/(∃kvs,H a=some (.dT kvs)/\z9a xs kvs)\/(∃o kvs ys,H a=some (.frz o (.dT kvs))/\xs=.non::ys/\z9a ys kvs)\/(∃kvs,kvs≠[]/\H a=some (.dK kvs)/\wM mg H Y xs kvs)\/∃o kvs ys,H a=some (.frz o (.dK kvs))/\xs=.non::ys/\wM mg H Y ys kvs/\z9H ys/\kvs≠[]
structure Rep(H:Hp)(Y:List Addr)(s:Sto):Prop where
 len:Y.length=s.length
 nd:Y.Nodup
 cell:∀(l:Nat)(xs:List D),s[l]? = some xs->∃a,Y[l]? = some a/\uc mg H Y xs a
 flat:∀xs∈s,D.flat.flats xs=true
 own:∀b,Own H Y b->b∉Y
 uq:∀a∈Y,∀a'∈Y,∀kvs kvs' (i j:Nat) k k' b,H a=some (.dK kvs)->H a'=some (.dK kvs')->kvs[i]? = some (k,V.ref b)->kvs'[j]? = some (k',V.ref b)->a=a'/\i=j
structure yw(H:Hp)(Y:List Addr)(H':Hp)(Y':List Addr)(s':Sto):Prop where
 rep:Rep mg H' Y' s'
 pre:Y <+: Y'
 keep:∀b o,H b=some o->b∉Y->(Own H Y b->∀vs,o≠.lst vs)->H' b=some o
 new:∀a∈Y',a∉Y->H a=none
 mt:∀a∈Y,(IsL H a/\IsL H' a)\/(IsC H a/\IsC H' a/\∀o u,H a=some (.frz o u)->H' a=some (.frz o u))
 dom:∀b,H' b=none->H b=none
 ow:∀b,Own H' Y' b->Own H Y b\/H b=none
end
section
variable {mg:Gm}{H H' H1 H2:Hp}{Y Y' Y1 Y2:List Addr}{s s' s1 s2:Sto}
theorem uc.kind{xs:List D}{a:Addr}(h:uc mg H Y xs a):IsL H a\/IsC H a:=h.imp (λ⟨vs,e,_⟩=>⟨vs,e⟩) λh=>h.imp (λ⟨k,e,_⟩=>⟨k,e⟩) λh=>h.imp (λ⟨o,k,_,e,_⟩=>⟨o,k,e⟩) λh=>h.imp (λ⟨k,n,e,_⟩=>⟨k,n,e⟩) λ⟨o,k,_,e,_⟩=>⟨o,k,e⟩
theorem Rep.mt(r:Rep mg H Y s):∀a∈Y,IsL H a\/IsC H a:=λa ha=>by
 obtain⟨l,hl,e⟩:=_Y.mp ha;have hl':l<s.length:=by rw[<- r.len];exact hl
 obtain⟨b,e1,c⟩:=r.cell l s[l] (_n hl');rw[_n hl]at e1;have:Y[l]=b:=_v e1;rw[<- e,this];exact c.kind
theorem Rep.at_(r:Rep mg H Y s){l:Nat}{xs:List D}{a:Addr}(h:s[l]? = some xs)(ha:Y[l]? = some a)(k:IsL H a):∃vs,H a=some (.lst vs)/\zq mg H Y xs vs:=by
 obtain⟨b,e1,c⟩:=r.cell l xs h;rw[ha]at e1;cases e1;rcases c with c | c;·exact c
 ·exact (k.notC (c.imp (λ⟨k,e,_⟩=>⟨k,e⟩) λh=>h.imp (λ⟨o,k,_,e,_⟩=>⟨o,k,e⟩) λh=>h.imp (λ⟨k,n,e,_⟩=>⟨k,n,e⟩) λ⟨o,k,_,e,_⟩=>⟨o,k,e⟩)).elim
theorem Rep.dic(r:Rep mg H Y s){l:Nat}{xs:List D}{a:Addr}(h:s[l]? = some xs)(ha:Y[l]? = some a)(k:IsC H a):(∃kvs,H a=some (.dT kvs)/\z9a xs kvs)\/(∃o kvs ys,H a=some (.frz o (.dT kvs))/\xs=.non::ys/\z9a ys kvs)\/(∃kvs,kvs≠[]/\H a=some (.dK kvs)/\wM mg H Y xs kvs)\/∃o kvs ys,H a=some (.frz o (.dK kvs))/\xs=.non::ys/\wM mg H Y ys kvs/\z9H ys/\kvs≠[]:=by
 obtain⟨b,e1,c⟩:=r.cell l xs h;rw[ha]at e1;cases e1;rcases c with⟨vs,e,_⟩ | c;·exact (IsL.notC ⟨vs,e⟩ k).elim
 ·exact c
theorem yw.refl(r:Rep mg H Y s):yw mg H Y H Y s:=⟨r,_aV _,λ_ _ h _ _=>h,λa h1 h2=>absurd h1 h2,λa ha=>(r.mt a ha).imp (λh=>⟨h,h⟩) λh=>⟨h,h,λ_ _ q=>q⟩,λ_ h=>h,λ_ h=>.inl h⟩
theorem yw.trans(a:yw mg H Y H1 Y1 s1)(b:yw mg H1 Y1 H2 Y2 s2):yw mg H Y H2 Y2 s2:=by
 refine⟨b.rep,a.pre.trans b.pre,λc o h n g=>?_,λc h1 h2=>?_,λc hc=>?_,λc h=>a.dom c (b.dom c h),λc h=>(b.ow c h).elim (a.ow c) λz=>.inr (a.dom c z)⟩
 ·refine b.keep c o (a.keep c o h n g) (λz=>?_) λz=>?_;·rw[a.new c z n]at h;cases h
  ·rcases a.ow c z with z | z;·exact g z
   ·rw[z]at h;cases h
 ·by_cases h3:c∈Y1;·exact a.new c h3 h2
  ·exact a.dom c (b.new c h1 h3)
 ·have hc1:c∈Y1:=a.pre.subset hc;rcases a.mt c hc with⟨k1,k2⟩ | ⟨k1,k2,k3⟩
  ·rcases b.mt c hc1 with⟨_,q⟩ | ⟨q,_,_⟩;·exact .inl ⟨k1,q⟩
   ·exact (k2.notC q).elim
  ·rcases b.mt c hc1 with⟨q,_⟩ | ⟨_,q,q3⟩;·exact (q.notC k2).elim
   ·exact .inr ⟨k1,q,λo u z=>q3 o u (k3 o u z)⟩
theorem yw.stay(stp:yw mg H Y H' Y' s'){b:Addr}{o:HO}(h:H b=some o)(hn:∀vs,o≠.lst vs)(hn2:∀kvs,o≠.dT kvs:=by intro vs z;cases z)(hn3:∀kvs,kvs≠[]->o≠.dK kvs:=by intro kvs g z;cases z<;>exact g rfl):H' b=some o:=by
 by_cases hb:b∈Y
 ·rcases stp.mt b hb with⟨⟨vs,e⟩,_⟩ | ⟨⟨vs,e⟩ | ⟨p,vs,e⟩ | ⟨vs,g,e⟩ | ⟨p,vs,e⟩,_,q⟩
  ·rw[h]at e;exact absurd (_v e) (hn vs)
  ·rw[h]at e;exact absurd (_v e) (hn2 vs)
  ·rw[h]at e;cases e;exact q _ _ h
  ·rw[h]at e;exact absurd (_v e) (hn3 vs g)
  ·rw[h]at e;cases e;exact q _ _ h
 ·exact stp.keep b o h hb λ_=>hn
mutual
theorem Den.mono(stp:yw mg H Y H' Y' s'):∀{d:D}{v:V},Den mg H Y d v->Den mg H' Y' d v
 | .non,_,h=>by simpa[Den] using h | .bl _,_,h=>by simpa[Den] using h | .int _,_,h=>by simpa[Den] using h | .str _,_,h=>by simpa[Den] using h | .tup ds,v,h=>by
  simp only[Den]at h ⊢;obtain⟨a,vs,e,h1,h2⟩:=h;exact⟨a,vs,e,stp.stay h1 (by intro vs z;cases z),zq.mono stp h2⟩ | .lst ds,v,h=>by
  simp only[Den]at h ⊢;obtain⟨a,o,vs,e,h1,h2⟩:=h;exact⟨a,o,vs,e,stp.stay h1 (by intro vs z;cases z),zq.mono stp h2⟩ | .dct,v,h=>by
  simp only[Den]at h ⊢;obtain⟨a,e,h1⟩:=h;exact⟨a,e,stp.stay h1 (by intro vs z;cases z)⟩ | .loc l,v,h=>by
  simp only[Den]at h ⊢;obtain⟨a,e,h1,k⟩:=h;obtain⟨t,ht⟩:=stp.pre;refine⟨a,e,?_,?_⟩
  ·rw[<- ht,_u (_b.mp h1).1];exact h1
  ·rcases stp.mt a (_d h1) with⟨_,q⟩ | ⟨q,_,_⟩;·exact q
   ·exact (k.notC q).elim | .dlo l,v,h=>by
  simp only[Den]at h ⊢;obtain⟨a,e,h1,k⟩:=h;obtain⟨t,ht⟩:=stp.pre;refine⟨a,e,?_,?_⟩
  ·rw[<- ht,_u (_b.mp h1).1];exact h1
  ·rcases stp.mt a (_d h1) with⟨q,_⟩ | ⟨_,q,_⟩;·exact (q.notC k).elim
   ·exact q | .fn _,_,h=>by simpa[Den] using h | .exc x,v,h=>by
  simp only[Den]at h ⊢;obtain⟨a,C,e,h1,h2⟩:=h;exact⟨a,C,e,h1,stp.stay h2 (by intro vs z;cases z)⟩ | .scr ds,v,h=>by
  simp only[Den]at h ⊢;obtain⟨a,vs,e,h1,h2⟩:=h;exact⟨a,vs,e,h1.imp (λ⟨o,h1⟩=>⟨o,stp.stay h1 (by intro vs z;cases z)⟩) id,zq.mono stp h2⟩
theorem zq.mono(stp:yw mg H Y H' Y' s'):∀{ds:List D}{vs:List V},zq mg H Y ds vs->zq mg H' Y' ds vs
 | [],_,h=>by simpa[zq] using h | d::ds,vs,h=>by
  simp only[zq]at h ⊢;obtain⟨v,r,e,h1,h2⟩:=h;exact⟨v,r,e,Den.mono stp h1,zq.mono stp h2⟩
end
theorem zq.length:∀{ds:List D}{vs:List V},zq mg H Y ds vs->vs.length=ds.length
 | [],_,h=>by simp only[zq]at h;rw[h];rfl | d::ds,vs,h=>by
  simp only[zq]at h;obtain⟨v,r,rfl,_,h2⟩:=h;simp[zq.length h2]
theorem zq.get:∀{ds:List D}{vs:List V}{i:Nat}{d:D},zq mg H Y ds vs->ds[i]? = some d->∃v,vs[i]? = some v/\Den mg H Y d v
 | [],_,_,_,_,e=>by simp at e | d::ds,vs,0,d',h,e=>by
  simp only[zq]at h;obtain⟨v,r,rfl,h1,_⟩:=h;simp at e;subst e;exact⟨v,by simp,h1⟩ | d::ds,vs,i+1,d',h,e=>by
  simp only[zq]at h;obtain⟨v,r,rfl,_,h2⟩:=h;obtain⟨u,h3,h4⟩:=zq.get (i:=i) h2 (by simpa using e);exact⟨u,by simpa using h3,h4⟩
theorem zq.append:∀{ds es:List D}{vs us:List V},zq mg H Y ds vs->zq mg H Y es us->zq mg H Y (ds++es) (vs++us)
 | [],_,_,_,h,h'=>by simp only[zq]at h;subst h;simpa using h' | d::ds,_,_,_,h,h'=>by
  simp only[zq]at h;obtain⟨v,r,rfl,h1,h2⟩:=h;simp only[_X,zq];exact⟨v,_,rfl,h1,zq.append h2 h'⟩
theorem zq.nil:zq mg H Y [] []:=by simp[zq]
theorem zq.cons {d:D} {ds:List D} {v:V} {vs:List V} (h:Den mg H Y d v) (h':zq mg H Y ds vs):zq mg H Y (d::ds) (v::vs):=by
 simp only[zq];exact⟨v,vs,rfl,h,h'⟩
theorem zq.one{d:D}{v:V}(h:Den mg H Y d v):zq mg H Y [d] [v]:=.cons h .nil
theorem zq.take:∀{ds:List D}{vs:List V}(n:Nat),zq mg H Y ds vs->zq mg H Y (ds.take n) (vs.take n)
 | ds,vs,0,h=>by simp[zq] | [],vs,n+1,h=>by simp only[zq]at h;subst h;simp[zq] | d::ds,vs,n+1,h=>by
  simp only[zq]at h;obtain⟨v,r,rfl,h1,h2⟩:=h;simp only[List.take_succ_cons];exact .cons h1 (zq.take n h2)
theorem zq.drop:∀{ds:List D}{vs:List V}(n:Nat),zq mg H Y ds vs->zq mg H Y (ds.drop n) (vs.drop n)
 | ds,vs,0,h=>by simpa using h | [],vs,n+1,h=>by simp only[zq]at h;subst h;simp[zq] | d::ds,vs,n+1,h=>by
  simp only[zq]at h;obtain⟨v,r,rfl,h1,h2⟩:=h;simpa using zq.drop n h2
theorem zq.set:∀{ds:List D}{vs:List V}{d:D}{v:V}(n:Nat),zq mg H Y ds vs->Den mg H Y d v->zq mg H Y (ds.set n d) (vs.set n v)
 | [],vs,_,_,n,h,_=>by simp only[zq]at h;subst h;simp[zq] | d::ds,vs,_,_,0,h,h'=>by
  simp only[zq]at h;obtain⟨v,r,rfl,h1,h2⟩:=h;simpa using zq.cons h' h2 | d::ds,vs,_,_,n+1,h,h'=>by
  simp only[zq]at h;obtain⟨v,r,rfl,h1,h2⟩:=h;simpa using zq.cons h1 (zq.set n h2 h')
mutual
theorem Den.flatten(k:∀b o,H b=some o->(∀vs,o≠.lst vs)->(∀kvs,o≠.dT kvs)->(∀kvs,kvs≠[]->o≠.dK kvs)->H' b=some o):∀{d:D}{v:V},d.flat=true->Den mg H Y d v->Den mg H' Y' d v
 | .non,_,_,h=>by simpa[Den] using h | .bl _,_,_,h=>by simpa[Den] using h | .int _,_,_,h=>by simpa[Den] using h | .str _,_,_,h=>by simpa[Den] using h | .tup ds,v,f,h=>by
  simp only[Den]at h ⊢;obtain⟨a,vs,e,h1,h2⟩:=h;exact⟨a,vs,e,k a _ h1 (by intro vs z;cases z) (by intro vs z;cases z) (by intro vs g z;cases z<;>exact g rfl),zq.flatten k (by simpa[D.flat] using f) h2⟩ | .lst ds,v,f,h=>by
  simp only[Den]at h ⊢;obtain⟨a,o,vs,e,h1,h2⟩:=h;exact⟨a,o,vs,e,k a _ h1 (by intro vs z;cases z) (by intro vs z;cases z) (by intro vs g z;cases z<;>exact g rfl),zq.flatten k (by simpa[D.flat] using f) h2⟩ | .dct,v,_,h=>by
  simp only[Den]at h ⊢;obtain⟨a,e,h1⟩:=h;exact⟨a,e,k a _ h1 (by intro vs z;cases z) (by intro vs z;cases z) (by intro vs g z;cases z<;>exact g rfl)⟩ | .loc l,v,f,h=>by simp[D.flat]at f | .dlo l,v,f,h=>by simp[D.flat]at f | .fn _,_,_,h=>by simpa[Den] using h | .exc x,v,_,h=>by
  simp only[Den]at h ⊢;obtain⟨a,C,e,h1,h2⟩:=h;exact⟨a,C,e,h1,k a _ h2 (by intro vs z;cases z) (by intro vs z;cases z) (by intro vs g z;cases z<;>exact g rfl)⟩ | .scr ds,v,f,h=>by
  simp only[Den]at h ⊢;obtain⟨a,vs,e,h1,h2⟩:=h;exact⟨a,vs,e,h1.imp (λ⟨o,h1⟩=>⟨o,k a _ h1 (by intro vs z;cases z) (by intro vs z;cases z) (by intro vs g z;cases z<;>exact g rfl)⟩) id,zq.flatten k (by simpa[D.flat] using f) h2⟩
theorem zq.flatten(k:∀b o,H b=some o->(∀vs,o≠.lst vs)->(∀kvs,o≠.dT kvs)->(∀kvs,kvs≠[]->o≠.dK kvs)->H' b=some o):∀{ds:List D}{vs:List V},D.flat.flats ds=true->zq mg H Y ds vs->zq mg H' Y' ds vs
 | [],_,_,h=>by simpa[zq] using h | d::ds,vs,f,h=>by
  simp only[zq]at h ⊢;simp only[D.flat.flats,_p]at f;obtain⟨v,r,e,h1,h2⟩:=h;exact⟨v,r,e,Den.flatten k f.1 h1,zq.flatten k f.2 h2⟩
end
end
def okR{α β:Type}(mg:Gm)(E:XK)(H:Hp)(Y:List Addr)(Dn:Hp->List Addr->α->β->Prop)(r:R α)(Q:β->Hp->Prop):Prop:=match r with
 | .ok a s'=>∀b H' Y',yw mg H Y H' Y' s'->Dn H' Y' a b->Q b H' | .ex c s'=>∀H' Y' C,yw mg H Y H' Y' s'->mg.m c=some (.ref C)->E (.ref C) none H' | .no=>False
section
variable {α β α2 β2:Type}{mg:Gm}{E:XK}{H H' H1 H2:Hp}{Y Y' Y1 Y2:List Addr}{s s' s1 s2:Sto}{Dn:Hp->List Addr->α->β->Prop}{Dn2:Hp->List Addr->α2->β2->Prop}
theorem okR.rebase{r:R α}{Q:β->Hp->Prop}(h:okR mg E H Y Dn r Q)(stp:yw mg H Y H1 Y1 s1):okR mg E H1 Y1 Dn r Q:=by cases r with
 | ok a s'=>exact λb H' Y' stp'=>h b H' Y' (stp.trans stp') | ex c s'=>exact λH' Y' C stp'=>h H' Y' C (stp.trans stp') | no=>exact h
theorem okR.bind{r:R α}{k:α->Sto->R α2}{Q:β2->Hp->Prop}(h:okR mg E H Y Dn2 (r.bind k) Q): okR mg E H Y Dn r (λb H1=>∃Y1 s1 a,yw mg H Y H1 Y1 s1/\Dn H1 Y1 a b/\okR mg E H1 Y1 Dn2 (k a s1) Q):=by cases r with
 | ok a s'=>exact λb H' Y' stp dn=>⟨Y',s',a,stp,dn,okR.rebase h stp⟩ | ex c s'=>exact h | no=>exact h
theorem okR.imp{r:R α}{Q Q':β->Hp->Prop}(h:okR mg E H Y Dn r Q)(i:∀b H',Q b H'->Q' b H'):okR mg E H Y Dn r Q':=by cases r with
 | ok a s'=>exact λb H' Y' stp dn=>i b H' (h b H' Y' stp dn) | ex c s'=>exact h | no=>exact h
theorem okR.here{a:α}{Q:β->Hp->Prop}{b:β}(h:okR mg E H Y Dn (.ok a s) Q)(r:Rep mg H Y s)(d:Dn H Y a b):Q b H:=h b H Y (.refl r) d
end
structure vF(mg:Gm)(H:Hp)(Y:List Addr)(ρ:Ev)(O:L2.St):Prop where
 len:ρ.length=O.length
 at_:∀(i:Nat)(d:D),ρ[i]? = some (some d)->∃v,O[i]? = some (some v)/\Den mg H Y d v
theorem vF.mono{mg:Gm}{H H':Hp}{Y Y':List Addr}{s':Sto}{ρ:Ev}{O:L2.St}(e:vF mg H Y ρ O)(stp:yw mg H Y H' Y' s'):vF mg H' Y' ρ O:= ⟨e.len,λi d h=>let ⟨v,h1,h2⟩:=e.at_ i d h;⟨v,h1,h2.mono stp⟩⟩
theorem vF.set{mg:Gm}{H:Hp}{Y:List Addr}{ρ:Ev}{O:L2.St}{d:D}{v:V}(e:vF mg H Y ρ O)(h:Den mg H Y d v)(i:Nat):vF mg H Y (ρ.set i (some d)) (O.set i (some v)):=by
 refine⟨by simp[e.len],λj d' hj=>?_⟩;by_cases hij:i=j
 ·subst hij;have hi:i<ρ.length:=by
   have:=(_b.mp hj).1;simpa using this
  rw[_P hi]at hj;cases hj;exact⟨v,by rw[_P (by rw[<- e.len];exact hi)],h⟩
 ·rw[_I hij]at hj ⊢;exact e.at_ j d' hj
abbrev FE:=Ev->Sto->R D
abbrev FT:=Ev->Sto->R Bool
abbrev FA:=Ev->Sto->R (List D)
inductive Fl where | nx (ρ:Ev) | rt (d:D) | bk (ρ:Ev) | ct (ρ:Ev)
inductive FlV where | nx (O:L2.St) | rt (v:V) | bk (O:L2.St) | ct (O:L2.St)
abbrev FS:=Ev->Sto->R Fl
def FlD(mg:Gm)(H:Hp)(Y:List Addr):Fl->FlV->Prop
 | .nx ρ,.nx O=>vF mg H Y ρ O | .rt d,.rt v=>Den mg H Y d v | .bk ρ,.bk O=>vF mg H Y ρ O | .ct ρ,.ct O=>vF mg H Y ρ O | _,_=>False
def z52(D:z9S):FlV->Hp->Prop
 | .nx O,H=>D.nx O H | .rt v,H=>D.rt v H | .bk O,H=>D.bk O H | .ct O,H=>D.ct O H
def bD(_:Hp)(_:List Addr)(a b:Bool):Prop:=a=b
def tE(mg:Gm)(E:XK)(f:FE):TE:=λO H Q=>∃Y ρ s,Rep mg H Y s/\vF mg H Y ρ O/\okR mg E H Y (Den mg) (f ρ s) Q
def tT(mg:Gm)(E:XK)(f:FT):TT:=λO H Q=>∃Y ρ s,Rep mg H Y s/\vF mg H Y ρ O/\okR mg E H Y bD (f ρ s) Q
def tA(mg:Gm)(E:XK)(f:FA):TA:=λO H Q=>∃Y ρ s,Rep mg H Y s/\vF mg H Y ρ O/\okR mg E H Y (zq mg) (f ρ s) Q
def tS(mg:Gm)(E:XK)(f:FS):TS:=λD O H=>∃Y ρ s,Rep mg H Y s/\vF mg H Y ρ O/\okR mg E H Y (FlD mg) (f ρ s) (z52 D)
def RE(X:Cx)(E:XK)(e:Expr)(f:FE):Prop:=PE X e (tE (gm X) E f)
def RT(X:Cx)(E:XK)(e:Expr)(f:FT):Prop:=PT X e (tT (gm X) E f)
def RA(X:Cx)(E:XK)(es:List Expr)(f:FA):Prop:=PA X es (tA (gm X) E f)
def RS(X:Cx)(E:XK)(st:Stmt)(f:FS):Prop:=PS X st (tS (gm X) E f)
def RSs(X:Cx)(E:XK)(st:List Stmt)(f:FS):Prop:=PSs X st (tS (gm X) E f)
section
variable {X:Cx}{E:XK}{e a b c:Expr}{es:List Expr}{pos:Pos}
theorem yh{t t':TE}(h:PE X e t)(i:∀O H Q,t' O H Q->t O H Q):PE X e t':=λpins s O H Q I q=>h pins s O H Q I (i O H Q q)
theorem z5R{t t':TT}(h:PT X e t)(i:∀O H Q,t' O H Q->t O H Q):PT X e t':=λpins s O H Q I q=>h pins s O H Q I (i O H Q q)
theorem zaS{t t':TA}(h:PA X es t)(i:∀O H Q,t' O H Q->t O H Q):PA X es t':=λpos pins s O H Q I q=>h pos pins s O H Q I (i O H Q q)
theorem vy{st:Stmt}{t t':TS}(h:PS X st t)(i:∀D O H,t' D O H->t D O H):PS X st t':=λpins s O H D I q=>h pins s O H D I (i D O H q)
theorem z8l{st:List Stmt}{t t':TS}(h:PSs X st t)(i:∀D O H,t' D O H->t D O H):PSs X st t':=λpins s O H D I q=>h pins s O H D I (i D O H q)
theorem yd{α β:Type}{Dn:Hp->List Addr->α->β->Prop}{mg:Gm}{f:FE}{k:Ev->D->Sto->R α}{O:L2.St}{H:Hp}{Q:β->Hp->Prop}{Y:List Addr}{ρ:Ev}{s:Sto}(r:Rep mg H Y s)(en:vF mg H Y ρ O) (h:okR mg E H Y Dn ((f ρ s).bind (k ρ)) Q)(K:V->Hp->Prop) (hK:∀v H1 Y1 s1 d,Rep mg H1 Y1 s1->vF mg H1 Y1 ρ O->Den mg H1 Y1 d v->yw mg H Y H1 Y1 s1->okR mg E H1 Y1 Dn (k ρ d s1) Q->K v H1):tE mg E f O H K:= ⟨Y,ρ,s,r,en,(okR.bind (Dn:=Den mg) h).imp λv H1 ⟨Y1,s1,d,stp,dn,q⟩=>hK v H1 Y1 s1 d stp.rep (en.mono stp) dn stp q⟩
theorem z50{α β:Type}{Dn:Hp->List Addr->α->β->Prop}{mg:Gm}{f:FT}{k:Ev->Bool->Sto->R α}{O:L2.St}{H:Hp}{Q:β->Hp->Prop}{Y:List Addr}{ρ:Ev}{s:Sto}(r:Rep mg H Y s)(en:vF mg H Y ρ O) (h:okR mg E H Y Dn ((f ρ s).bind (k ρ)) Q)(K:Bool->Hp->Prop) (hK:∀v H1 Y1 s1,Rep mg H1 Y1 s1->vF mg H1 Y1 ρ O->yw mg H Y H1 Y1 s1->okR mg E H1 Y1 Dn (k ρ v s1) Q->K v H1):tT mg E f O H K:= ⟨Y,ρ,s,r,en,(okR.bind (Dn:=bD) h).imp λv H1 ⟨Y1,s1,d,stp,dn,q⟩=>hK v H1 Y1 s1 stp.rep (en.mono stp) stp (by cases (show d=v from dn);exact q)⟩
theorem uY{α β:Type}{Dn:Hp->List Addr->α->β->Prop}{mg:Gm}{f:FA}{k:Ev->List D->Sto->R α}{O:L2.St}{H:Hp}{Q:β->Hp->Prop}{Y:List Addr}{ρ:Ev}{s:Sto}(r:Rep mg H Y s)(en:vF mg H Y ρ O) (h:okR mg E H Y Dn ((f ρ s).bind (k ρ)) Q)(K:List V->Hp->Prop) (hK:∀v H1 Y1 s1 d,Rep mg H1 Y1 s1->vF mg H1 Y1 ρ O->zq mg H1 Y1 d v->yw mg H Y H1 Y1 s1->okR mg E H1 Y1 Dn (k ρ d s1) Q->K v H1):tA mg E f O H K:= ⟨Y,ρ,s,r,en,(okR.bind (Dn:=zq mg) h).imp λv H1 ⟨Y1,s1,d,stp,dn,q⟩=>hK v H1 Y1 s1 d stp.rep (en.mono stp) dn stp q⟩
noncomputable def zd(i:Nat):FE:=fun ρ s=>match ρ[i]? with | some (some d)=>.ok d s | _=>.no
theorem zc(i:Nat){x:Str}(hN:X.N[i]? = some x:=by rfl)(hv:Vis X.env.scope x:=by first | exact Or.inl rfl | exact Or.inr (Or.inl rfl) | exact Or.inr (Or.inr rfl))(hd:(x==("__debug__":Str))=false:=by decide) (hcd:(x==("__classdict__":Str))=false:=by decide):RE X E (.Name x pos) (zd i):= yh (kG hN hv hd hcd) λO H Q ⟨Y,ρ,s,r,en,h⟩=>by
  unfold zd at h;split at h
  ·rename_i d hd;obtain⟨v,h1,h2⟩:=en.at_ i d hd;exact⟨v,h1,h.here r h2⟩
  ·exact h.elim
noncomputable def eC(d:D):FE:=λ_ s=>.ok d s
theorem zB{i:Int}{j:Nat}:RE X E (.Constant (.int i) j pos) (eC (.int i)):=yh zbo λO H Q ⟨Y,ρ,s,r,en,h⟩=>okR.here (b:=V.int i) h r (by simp[Den])
theorem z72{i:Bool}{j:Nat}:RE X E (.Constant (.bool i) j pos) (eC (.bl i)):=yh zgj λO H Q ⟨Y,ρ,s,r,en,h⟩=>okR.here (b:=V.bl i) h r (by simp[Den])
theorem z4h{j:Nat}:RE X E (.Constant .none j pos) (eC .non):=yh zeE λO H Q ⟨Y,ρ,s,r,en,h⟩=>okR.here (b:=V.non) h r (by simp[Den])
theorem zf4{i:Str}{j:Nat}:RE X E (.Constant (.str i) j pos) (eC (.str i)):=yh zer λO H Q ⟨Y,ρ,s,r,en,h⟩=>okR.here (b:=V.str i) h r (by simp[Den])
theorem zeF{x:Str}{i:Int}{t:Tok}(hg:Gl X x)(hm:X.mg x=some (.int i t))(hd:(x==("__debug__":Str))=false:=by decide):RE X E (.Name x pos) (eC (.int i)):= yh (zcE hg hm (show yq (.int i) (.int i t) from⟨t,rfl⟩) hd) λO H Q ⟨Y,ρ,s,r,en,h⟩=>okR.here (b:=V.int i) h r (by simp[Den])
def OpF(X:Cx)(E:XK)(r:R2)(op:D->D->Sto->R D):Prop:= ∀H Y s d1 d2 v1 v2 (Q:VK),Rep (gm X) H Y s->Den (gm X) H Y d1 v1->Den (gm X) H Y d2 v2->okR (gm X) E H Y (Den (gm X)) (op d1 d2 s) Q->r v1 v2 H Q
noncomputable def eOp(op:D->D->Sto->R D)(fa fb:FE):FE:=fun ρ s=>(fa ρ s).bind λx s1=>(fb ρ s1).bind λy s2=>op x y s2
theorem z5T{r:R2}{op:D->D->Sto->R D}{fa fb:FE}(ho:OpF X E r op){O:L2.St}{H:Hp}{Q:VK}(h:tE (gm X) E (eOp op fa fb) O H Q):tOp r (tE (gm X) E fa) (tE (gm X) E fb) O H Q:=by
 obtain⟨Y,ρ,s,r',en,h⟩:=h;refine yd (k:=fun ρ x s1=>(fb ρ s1).bind λy s2=>op x y s2) r' en h _ λv H1 Y1 s1 d r1 en1 dn stp h1=>?_;refine yd (k:=fun ρ y s2=>op d y s2) r1 en1 h1 _ λv2 H2 Y2 s2 d2 r2 en2 dn2 St2 h2=>?_;exact ho H2 Y2 s2 d d2 v v2 Q r2 (dn.mono St2) dn2 h2
theorem zhm{op:Operator}{r:R2}{fo:D->D->Sto->R D}{fa fb:FE}(ho:OpR X (binaryOp op) r/\OpF X E r fo)(ha:RE X E a fa)(hb:RE X E b fb):RE X E (.BinOp a op b pos) (eOp fo fa fb):= yh (zdo ho.1 ha hb) λO H Q h=>z5T ho.2 h
theorem zfA{op:CmpOp}{r:R2}{fo:D->D->Sto->R D}{fa fb:FE}(ho:OpR X (compareOp op) r/\OpF X E r fo)(ha:RE X E a fa)(hb:RE X E b fb)(hm:behindInMarks op b=false):RE X E (.Compare a [op] [b] pos) (eOp fo fa fb):= yh (zcP ho.1 ha hb hm) λO H Q h=>z5T ho.2 h
end
end Dd
namespace L2
theorem Inv.freeze {X:Cx} {pins:List (Addr×Obj)} {O:L2.St} {H:Hp} {s:Shared} {a:Addr} {u:HO} {o:Obj} (I:Inv X pins O H s) (h:H a=some u) (e:s.heap.get? a=some o) (hu:∀xs,u≠.tup xs) (hf:∀o v,u≠.frz o v) (ht:∀ps,u≠.tbl ps) (ho:∀y,u≠.own y): Inv X pins O (upd H a (.frz o u)) s:=by
 have ne:∀{b:Addr} {v:HO},H b=some v->v≠u->b≠a:=λ{b v} hb hv z=>by subst z;rw[h]at hb;exact hv (_v hb).symm
 have stay:∀b v,yN X.prog X.w H s.heap b v->yN X.prog X.w (upd H a (.frz o u)) s.heap b v:=λb v q=> q.stay (λ_ _ _ q=>q) (λc q=>by rw[zg (ne q (λz=>ho b z.symm))];exact q) λc xs q=>by rw[zg (ne q (λz=>hu xs z.symm))];exact q
 have hok:HOk X.prog X.w (upd H a (.frz o u)) s.heap:=λb v q=>by
  by_cases hb:b=a
  ·subst hb;rw[zu]at q;cases q;exact⟨e,stay b u (I.hok b u h)⟩
  ·rw[zg hb]at q;exact stay b v (I.hok b v q)
 exact I.step (h':=s.heap) (g':=s.gens) (d':=s.drawn) (t':=s.toks) (ch:=[]) (λb hb=>absurd hb (by simp)) (λb o _ _ _ e _=>e) (λb o _ _ _ e _=>⟨o.slots,e⟩) (λb v _ _ n=>by rw[zg (λz=>by subst z;rw[h]at n;cases n)];exact n) (λb o _ e=>⟨o,e⟩) (λb xs q=>by rw[zg (ne q (λz=>hu xs z.symm))];exact q) (λb o' v q=>by rw[zg (ne q (λz=>hf o' v z.symm))];exact q) (λb ps q=>⟨#[],by rw[zg (ne q (λz=>ht ps z.symm)),q];simp⟩) (λ_ q=>q) hok I.bare
def z5D(Q:VK):VK:=λv H=>∃a xs,v=.ref a/\H a=some (.lst xs)/\∀o,Q v (upd H a (.frz o (.lst xs)))
theorem EP.freeze{X:Cx}{pins:List (Addr×Obj)}{O:L2.St}{Q:VK}{u:Value}{s:Shared}(h:EP X pins O (z5D Q) u s):EP X pins O Q u s:=by
 obtain⟨v,H',I,r,a,xs,rfl,ha,q⟩:=h;obtain⟨its,n,rv,e,_⟩:=I.lst ha;exact⟨_,_,I.freeze ha e (by intro _ z;cases z) (by intro _ _ z;cases z) (by intro _ z;cases z) (by intro _ z;cases z),r,q _⟩
theorem OpR.freeze{X:Cx}{f:Value->Value->Sem Value}{r:R2}(h:OpR X f r):OpR X f (λx y H Q=>r x y H (z5D Q)):=λpins s O H x y v u Q I rx ry q=>thn (h pins s O H x y v u _ I rx ry q) λ_ _ z=>z.freeze
theorem xG.freeze{X:Cx}{f:Value}{r:List V->Hp->VK->Prop}(h:xG X f r):xG X f (λxs H Q=>r xs H (z5D Q)):=λpins s O H xs us Q I rs q=>thn (h pins s O H xs us _ I rs q) λ_ _ z=>z.freeze
theorem PE.freeze{X:Cx}{e:Expr}{t:TE}(h:PE X e t):PE X e (λO H Q=>t O H (z5D Q)):=λpins s O H Q I q=>thn (h pins s O H _ I q) λ_ _ z=>z.freeze
theorem SlR.freeze{X:Cx}{r:V->Option Int->Option Int->Hp->VK->Prop}(h:SlR X r):SlR X (λx lo hi H Q=>r x lo hi H (z5D Q)):=λpins s O H x v vl vu lo hi sl Q I rx hs pl pu q=>by
 obtain⟨T,id,h1,h2,h3⟩:=h pins s O H x v vl vu lo hi sl _ I rx hs pl pu q;exact⟨T,id,h1,h2,thn h3 λ_ _ z=>z.freeze⟩
section
variable {X:Cx}
theorem z7b:OpR X (binaryOp .Add) (λx y H Q=>∃l b xs zs,x=.ref l/\y=.ref b/\Rd H l (.lst xs)/\Rd H b (.lst zs)/\xs.length+zs.length<=sizeLine/\∀p,H p=none->Q (.ref p) (upd H p (.lst (xs++zs)))):=by
 intro pins s O H x y v u Q I rx ry h;obtain⟨l,b,xs,zs,rfl,rfl,hH,hB,hz,q⟩:=h;cases rx;cases ry;obtain⟨z,its,n,r,e⟩:=hH.ok I.hok;obtain⟨z2,its2,n2,r2,e2⟩:=hB.ok I.hok;have hl:=r.length;have hl2:=r2.length;refine PySem.P.add_list e e2 ?_ (by rw[_k,_k];omega);have ea:its.toArray++its2.toArray=(its++its2).toArray:=by simp
 rw[ea];exact⟨.ref _,_,I.lnew (t':=s.toks) (r.append r2) (by rw[_H];omega),rfl,q _ I.fresh⟩
end
section
variable {X:Cx}
theorem za8:OpR X (binaryOp .Add) (λx y H Q=>∃a b ys,x=.ref a/\y=.ref b/\SqT X.K H a []/\SqT X.K H b ys/\Q (.ref b) H):=by
 intro pins s O H x y v u Q I rx ry h;obtain⟨a,b,ys,rfl,rfl,ha,hb,q⟩:=h;cases rx;cases ry;obtain⟨its,r1,p1,_⟩:=I.tuple ha;obtain⟨its2,r2,p2,_⟩:=I.tuple hb;cases r1;obtain⟨⟨cls,dd,data,sl⟩,ho,hc,n,hd⟩:=id p1;obtain⟨⟨cls2,dd2,data2,sl2⟩,ho2,hc2,n2,hd2⟩:=id p2;simp only at hc hd hc2 hd2;subst hc hd hc2 hd2;exact concat_meets ⟨_,ho,rfl⟩ ⟨_,ho2,rfl⟩ _dp seq_tuple_add _b4 _bW (_bN _ _) (tuple_addW0 a b _ _ n n2 dd dd2 sl sl2 (by simp)) ⟨ho,ho2,⟨.ref b,H,I,rfl,q⟩⟩
theorem zcZ:SlR X (λx lo hi H Q=>∃a xs,x=.ref a/\SqT X.K H a xs/\(HT.sIx xs.length 0 lo=0/\HT.sIx xs.length xs.length hi=xs.length)/\Q (.ref a) H):=by
 intro pins s O H x v vl vu lo hi sl Q I rx hs pl pu h;obtain⟨a,xs,rfl,hx,hw,q⟩:=h;cases rx;obtain⟨its,r,ht,hz⟩:=I.tuple hx;have hlen:its.toArray.size=xs.length:=by rw[_k];exact r.length.symm
 refine⟨"tuple",_,_J.lookup,ht.typeIs,?_⟩;obtain⟨os,hos,hcs,hds⟩:=id hs;have hTs:s.TypeIs (.ref sl) "slice":=⟨os,hos,hcs⟩;obtain⟨oa,hoa,hca,na,hda⟩:=id ht;unfold getItem;try with_reducible refine _ay ?_
 first | refine _a (_c ?_) | skip
 refine _a (_dc ht.typeIs (by decide) ?_);refine _a (_ac (name:=Str.ofString "__getitem__") ht.typeIs _J (_af _J ht.typeIs _cI ?_ (_cY _ _)));show wpAny _ _ (Builtin.Tuple.tupleItemsOf (.ref a) >>= _) _ _ s;refine _a (tupleItemsOf_ ht ?_);refine _a (_cQ hTs ?_);rw[_g (by decide)];refine _a (HT.uO hs pl pu ?_);rw[hlen,hw.1,hw.2];show wpAny _ _ (if (((0:Nat):Int)==0&&(1:Int)==1&&(xs.length-0)==xs.length)=true then _ else _) _ _ s;rw[_g (by simp)];have hTa:s.TypeIs (.ref a) "tuple":=ht.typeIs;have fin:EP X pins O Q (.ref a) s:=⟨.ref a,H,I,rfl,q⟩;unfold Builtin.Tuple.tupleIsExact;refine _a (_a (_cQ hTa (_c ?_)));rw[_g (by decide)];exact _a (_at (_c ⟨_,rfl,_c fin⟩))
end
end L2
namespace Dd
open L2
section
variable {mg:Gm}{H H' H1 H2:Hp}{Y Y' Y1 Y2:List Addr}{s s' s1 s2:Sto}
structure Kp(H H':Hp):Prop where
 k:∀b o,H b=some o->(∀vs,o≠.lst vs)->(∀kvs,o≠.dT kvs)->(∀kvs,kvs≠[]->o≠.dK kvs)->H' b=some o
 l:∀a,IsL H a->IsL H' a
 c:∀a,IsC H a->IsC H' a
mutual
theorem Den.gen(k:Kp H H')(hi:∀(l:Nat) a,Y[l]? = some a->Y'[l]? = some a):∀{d:D}{v:V},Den mg H Y d v->Den mg H' Y' d v
 | .non,_,h=>by simpa[Den] using h | .bl _,_,h=>by simpa[Den] using h | .int _,_,h=>by simpa[Den] using h | .str _,_,h=>by simpa[Den] using h | .tup ds,v,h=>by
  simp only[Den]at h ⊢;obtain⟨a,vs,e,h1,h2⟩:=h;exact⟨a,vs,e,k.k a _ h1 (by intro vs z;cases z) (by intro vs z;cases z) (by intro vs g z;cases z<;>exact g rfl),zq.gen k hi h2⟩ | .lst ds,v,h=>by
  simp only[Den]at h ⊢;obtain⟨a,o,vs,e,h1,h2⟩:=h;exact⟨a,o,vs,e,k.k a _ h1 (by intro vs z;cases z) (by intro vs z;cases z) (by intro vs g z;cases z<;>exact g rfl),zq.gen k hi h2⟩ | .dct,v,h=>by
  simp only[Den]at h ⊢;obtain⟨a,e,h1⟩:=h;exact⟨a,e,k.k a _ h1 (by intro vs z;cases z) (by intro vs z;cases z) (by intro vs g z;cases z<;>exact g rfl)⟩ | .loc l,v,h=>by
  simp only[Den]at h ⊢;obtain⟨a,e,h1,q⟩:=h;exact⟨a,e,hi l a h1,k.l a q⟩ | .dlo l,v,h=>by
  simp only[Den]at h ⊢;obtain⟨a,e,h1,q⟩:=h;exact⟨a,e,hi l a h1,k.c a q⟩ | .fn _,_,h=>by simpa[Den] using h | .exc x,v,h=>by
  simp only[Den]at h ⊢;obtain⟨a,C,e,h1,h2⟩:=h;exact⟨a,C,e,h1,k.k a _ h2 (by intro vs z;cases z) (by intro vs z;cases z) (by intro vs g z;cases z<;>exact g rfl)⟩ | .scr ds,v,h=>by
  simp only[Den]at h ⊢;obtain⟨a,vs,e,h1,h2⟩:=h;exact⟨a,vs,e,h1.imp (λ⟨o,h1⟩=>⟨o,k.k a _ h1 (by intro vs z;cases z) (by intro vs z;cases z) (by intro vs g z;cases z<;>exact g rfl)⟩) id,zq.gen k hi h2⟩
theorem zq.gen(k:Kp H H')(hi:∀(l:Nat) a,Y[l]? = some a->Y'[l]? = some a):∀{ds:List D}{vs:List V},zq mg H Y ds vs->zq mg H' Y' ds vs
 | [],_,h=>by simpa[zq] using h | d::ds,vs,h=>by
  simp only[zq]at h ⊢;obtain⟨v,r,e,h1,h2⟩:=h;exact⟨v,r,e,Den.gen k hi h1,zq.gen k hi h2⟩
end
theorem xN{p:Addr}{o:HO}(hp:H p=none):∀b u,H b=some u->upd H p o b=some u:=λb u h=>by rw[zg (yz h hp)];exact h
theorem Kp.new{p:Addr}{o:HO}(hp:H p=none):Kp H (upd H p o):=⟨λb u h _ _ _=>xN hp b u h,λa ⟨vs,e⟩=>⟨vs,xN hp a _ e⟩,λa h=>h.imp (λ⟨vs,e⟩=>⟨vs,xN hp a _ e⟩) λh=>h.imp (λ⟨o,vs,e⟩=>⟨o,vs,xN hp a _ e⟩) λh=>h.imp (λ⟨vs,g,e⟩=>⟨vs,g,xN hp a _ e⟩) λ⟨o,vs,e⟩=>⟨o,vs,xN hp a _ e⟩⟩
theorem Kp.putL{a:Addr}{vs:List V}(h:IsL H a):Kp H (upd H a (.lst vs)):=by
 obtain⟨ws,e⟩:=h;have ne:∀{b u},H b=some u->(∀vs,u≠.lst vs)->b≠a:=λ{b u} q n z=>by subst z;rw[e]at q;exact n ws (_v q).symm
 refine⟨λb o q n1 n2 _=>by rw[zg (ne q n1)];exact q,λb ⟨us,q⟩=>?_,λb h=>?_⟩
 ·by_cases z:b=a;·subst z;exact⟨vs,zu⟩
  ·exact⟨us,by rw[zg z];exact q⟩
 ·rcases h with⟨us,q⟩ | ⟨o,us,q⟩ | ⟨us,g,q⟩ | ⟨o,us,q⟩;·exact .inl ⟨us,by rw[zg (ne q (by intro _ z;cases z))];exact q⟩
  ·exact .inr (.inl ⟨o,us,by rw[zg (ne q (by intro _ z;cases z))];exact q⟩)
  ·exact .inr (.inr (.inl ⟨us,g,by rw[zg (ne q (by intro _ z;cases z))];exact q⟩))
  ·exact .inr (.inr (.inr ⟨o,us,by rw[zg (ne q (by intro _ z;cases z))];exact q⟩))
theorem wM.imp{mg:Gm}{H H':Hp}{Y Y':List Addr}:∀{xs:List D}{kvs:List (Key×V)},(∀ys vs k,(D.tup [.int k,.lst ys]∈xs\/D.tup [.int k,.lst ys,.non]∈xs)->zq mg H Y ys vs->zq mg H' Y' ys vs)->(∀k b vs,(k,V.ref b)∈kvs->H b=some (.lst vs)->H' b=some (.lst vs))->(∀b o vs,H b=some (.frz o (.lst vs))->H' b=some (.frz o (.lst vs)))->wM mg H Y xs kvs->wM mg H' Y' xs kvs
 | [],_,_,_,_,h=>h | d::ds,kvs,g,w,z,h=>by
  obtain⟨k,ys,b,vs,r,rfl,h1,h2,h3⟩:=h;refine⟨k,ys,b,vs,r,rfl,g ys vs k (h2.imp (λq=>by rw[q.1];simp) λq=>by rw[q.1];simp) h1,h2.imp (λq=>⟨q.1,w (Sum.inl k) b vs (by simp) q.2⟩) (λq=>⟨q.1,q.2.imp λo e=>z b o vs e⟩),wM.imp (λys vs k hm=>g ys vs k (hm.imp (λq=>by simp[q]) λq=>by simp[q])) (λk b vs hm=>w k b vs (by simp[hm])) z h3⟩
theorem wM.fz{mg:Gm}{H:Hp}{Y:List Addr}:∀{xs:List D}{kvs:List (Key×V)}{k:Key}{b:Addr}{us:List V},wM mg H Y xs kvs->z9H xs->(k,V.ref b)∈kvs->H b=some (.lst us)->False
 | [],_,k,b,us,h,f,hm,z=>by simp only[wM]at h;subst h;simp at hm | d::ds,kvs,k,b,us,h,f,hm,z=>by
  obtain⟨k',ys,b',vs,r,rfl,h1,h2,h3⟩:=h;rcases _h.mp hm with e | hm
  ·cases e;rcases h2 with⟨q,_⟩ | ⟨_,o,q⟩
   ·obtain⟨k2,zs,e2⟩:=f d (.head _);rw[e2]at q;simp at q
   ·rw[q]at z;cases z
  ·exact wM.fz h3 (λd hd=>f d (.tail _ hd)) hm z
theorem wM.at_{mg:Gm}{H:Hp}{Y:List Addr}:∀{xs:List D}{kvs:List (Key×V)}{k:Key}{b:Addr},wM mg H Y xs kvs->(k,V.ref b)∈kvs->∃u,H b=some u
 | [],_,k,b,h,hm=>by simp only[wM]at h;subst h;simp at hm | d::ds,kvs,k,b,h,hm=>by
  obtain⟨k',ys,b',vs,r,rfl,h1,h2,h3⟩:=h;rcases _h.mp hm with e | hm
  ·cases e;rcases h2 with⟨_,q⟩ | ⟨_,o,q⟩<;>exact⟨_,q⟩
  ·exact wM.at_ h3 hm
theorem Rep.ownAt(r:Rep mg H Y s){b:Addr}(h:Own H Y b):∃u,H b=some u:=by
 obtain⟨a,ha,kvs,k,e,hm⟩:=h;obtain⟨l,hl,el⟩:=_Y.mp ha;have hl':l<s.length:=by rw[<- r.len];exact hl
 obtain⟨b',e1,c⟩:=r.cell l s[l] (_n hl');rw[_n hl]at e1;have:Y[l]=b':=_v e1;subst this;rw[el]at c;rcases c with⟨_,z,_⟩ | ⟨_,z,_⟩ | ⟨_,_,_,z,_⟩ | ⟨kvs',_,z,dk⟩ | ⟨_,_,_,z,_⟩<;>rw[e]at z<;>cases z;exact dk.at_ hm
def DkS(H:Hp)(Y:List Addr)(H':Hp)(Y':List Addr):Prop:=∀a∈Y',∀kvs,H' a=some (.dK kvs)->a∈Y/\H a=some (.dK kvs)
theorem DkS.own(d:DkS H Y H' Y'){b:Addr}(h:Own H' Y' b):Own H Y b:=by
 obtain⟨a,ha,kvs,k,e,hm⟩:=h;obtain⟨h1,h2⟩:=d a ha kvs e;exact⟨a,h1,kvs,k,h2,hm⟩
theorem DkS.uq(r:Rep mg H Y s)(d:DkS H Y H' Y'):∀a∈Y',∀a'∈Y',∀kvs kvs' (i j:Nat) k k' b,H' a=some (.dK kvs)->H' a'=some (.dK kvs')->kvs[i]? = some (k,V.ref b)->kvs'[j]? = some (k',V.ref b)->a=a'/\i=j:=λa ha a' ha' kvs kvs' i j k k' b e e'=> r.uq a (d a ha kvs e).1 a' (d a' ha' kvs' e').1 kvs kvs' i j k k' b (d a ha kvs e).2 (d a' ha' kvs' e').2
theorem vn{p:Addr}{o:HO}{b:Addr}(h:upd H p o b=none):H b=none:=by
 by_cases z:b=p;·subst z;rw[zu]at h;cases h
 ·rw[zg z]at h;exact h
theorem uc.gen{xs:List D}{a:Addr}(k:Kp H H')(hi:∀(l:Nat) a,Y[l]? = some a->Y'[l]? = some a)(e:H' a=H a)(ha:a∈Y)(ro:∀b,Own H Y b->b∉Y)(w:∀b vs,b∉Y->H b=some (.lst vs)->H' b=some (.lst vs))(h:uc mg H Y xs a):uc mg H' Y' xs a:=by
 rcases h with⟨vs,h1,h2⟩ | ⟨kvs,h1,h2⟩ | ⟨o,kvs,ys,h1,h2⟩ | ⟨kvs,g,h1,h2⟩ | ⟨o,kvs,ys,h1,e1,h2,f⟩;·exact .inl ⟨vs,e.trans h1,h2.gen k hi⟩
 ·exact .inr (.inl ⟨kvs,e.trans h1,h2⟩)
 ·exact .inr (.inr (.inl ⟨o,kvs,ys,e.trans h1,h2⟩))
 ·exact .inr (.inr (.inr (.inl ⟨kvs,g,e.trans h1,h2.imp (λ_ _ _ _ q=>q.gen k hi) (λq b vs hm=>w b vs (ro b ⟨a,ha,kvs,q,h1,hm⟩)) λb o vs q=>k.k b _ q (by intro vs z;cases z) (by intro vs z;cases z) (by intro vs g z;cases z)⟩)))
 ·exact .inr (.inr (.inr (.inr ⟨o,kvs,ys,e.trans h1,e1,h2.imp (λ_ _ _ _ q=>q.gen k hi) (λq b vs hm z=>(h2.fz f.1 hm z).elim) λb o vs q=>k.k b _ q (by intro vs z;cases z) (by intro vs z;cases z) (by intro vs g z;cases z),f⟩)))
theorem uc.ne{xs:List D}{a p:Addr}(h:uc mg H Y xs a)(hp:H p=none):a≠p:=by
 rintro rfl;rcases h.kind with⟨_,e⟩ | ⟨_,e⟩ | ⟨_,_,e⟩ | ⟨_,_,e⟩ | ⟨_,_,e⟩<;>rw[hp]at e<;>cases e
theorem Rep.notin{p:Addr}(r:Rep mg H Y s)(hp:H p=none):p∉Y:=λz=>by rcases r.mt p z with⟨_,e⟩ | ⟨_,e⟩ | ⟨_,_,e⟩ | ⟨_,_,e⟩ | ⟨_,_,e⟩<;>rw[hp]at e<;>cases e
theorem yw.lay{p:Addr}{o:HO}(r:Rep mg H Y s)(hp:H p=none)(ho:∀vs,o≠.lst vs):yw mg H Y (upd H p o) Y s:= have d:DkS H Y (upd H p o) Y:=λa ha kvs e=>⟨ha,by rw[zg (show a≠p from λz=>r.notin hp (z ▸ ha))]at e;exact e⟩;⟨⟨r.len,r.nd,λl xs h=>let ⟨a,h1,h2⟩:=r.cell l xs h;⟨a,h1,h2.gen (.new hp) (λ_ _ q=>q) (zg (h2.ne hp)) (_d h1) r.own (λb vs _ q=>xN hp b _ q)⟩,r.flat,λb h=>r.own b (d.own h),d.uq r⟩,_aV _,λb u h _ _=>xN hp b u h,λa h1 h2=>absurd h1 h2,λa ha=>(r.mt a ha).imp (λh=>⟨h,(Kp.new hp).l a h⟩) λh=>⟨h,(Kp.new hp).c a h,λ_ _ e=>xN hp a _ e⟩,λb h=>vn h,λb h=>.inl (d.own h)⟩
theorem yw.layC{p:Addr}{o:HO}{xs:List D}(r:Rep mg H Y s)(hp:H p=none)(hc:uc mg (upd H p o) (Y++[p]) xs p)(hf:D.flat.flats xs=true)(ho:∀kvs,o≠.dK kvs:=by intro _ z;cases z):yw mg H Y (upd H p o) (Y++[p]) (s++[xs]):=by
 have pn:p∉Y:=r.notin hp;have d:DkS H Y (upd H p o) (Y++[p]):=λa ha kvs e=>by
  by_cases z:a=p;·subst z;rw[zu]at e;exact absurd (_v e) (ho kvs)
  ·rw[zg z]at e;exact⟨(_E.mp ha).elim id λq=>absurd (by simpa using q) z,e⟩
 have hi:∀(l:Nat) a,Y[l]? = some a->(Y++[p])[l]? = some a:=λl a h=>by rw[_u (_b.mp h).1];exact h
 refine⟨⟨by simp[r.len],?_,λl ys h=>?_,λys h=>?_,λb h=>?_,d.uq r⟩,List.prefix_append _ _,λb u h _ _=>xN hp b u h,λa h1 h2=>?_,λa ha=>(r.mt a ha).imp (λh=>⟨h,(Kp.new hp).l a h⟩) λh=>⟨h,(Kp.new hp).c a h,λ_ _ e=>xN hp a _ e⟩,λb h=>vn h,λb h=>.inl (d.own h)⟩
 ·rw[List.nodup_append];exact⟨r.nd,by simp,λa ha b hb=>by
   have:b=p:=by simpa using hb
   subst this;exact λz=>pn (z ▸ ha)⟩
 ·by_cases hl:l<s.length
  ·rw[_u hl]at h;obtain⟨a,h1,h2⟩:=r.cell l ys h;exact⟨a,hi l a h1,h2.gen (.new hp) hi (zg (h2.ne hp)) (_d h1) r.own (λb vs _ q=>xN hp b _ q)⟩
  ·have h0:l=s.length:=by
    have:=(_b.mp h).1;simp at this;omega
   subst h0;simp at h;subst h;exact⟨p,by rw[<- r.len];simp,hc⟩
 ·rcases _E.mp h with h | h;·exact r.flat ys h
  ·have:ys=xs:=by simpa using h
   rw[this];exact hf
 ·have q:=d.own h;obtain⟨u,hu⟩:=r.ownAt q;intro z;rcases _E.mp z with z | z;·exact r.own b q z
  ·have:b=p:=by simpa using z
   rw[this,hp]at hu;cases hu
 ·rcases _E.mp h1 with h | h;·exact absurd h h2
  ·have:a=p:=by simpa using h
   rw[this];exact hp
theorem yw.layL{p:Addr}{xs:List D}{vs:List V}(r:Rep mg H Y s)(hp:H p=none)(hd:zq mg H Y xs vs)(hf:D.flat.flats xs=true):yw mg H Y (upd H p (.lst vs)) (Y++[p]) (s++[xs]):= yw.layC r hp (.inl ⟨vs,zu,hd.gen (.new hp) λl a h=>by rw[_u (_b.mp h).1];exact h⟩) hf
theorem yw.putC{l:Nat}{a:Addr}{o:HO}{xs:List D}(r:Rep mg H Y s)(ha:Y[l]? = some a)(k:Kp H (upd H a o))(hc:uc mg (upd H a o) Y xs a)(hf:D.flat.flats xs=true)(ho:∀kvs,o≠.dK kvs:=by intro _ z;cases z):yw mg H Y (upd H a o) Y (s.set l xs):=by
 have d:DkS H Y (upd H a o) Y:=λb hb kvs e=>by
  by_cases z:b=a;·subst z;rw[zu]at e;exact absurd (_v e) (ho kvs)
  ·rw[zg z]at e;exact⟨hb,e⟩
 have hai:a∈Y:=_d ha;have hll:l<s.length:=by rw[<- r.len];exact (_b.mp ha).1
 refine⟨⟨by simp[r.len],r.nd,λj ys h=>?_,λys h=>?_,λb h=>r.own b (d.own h),d.uq r⟩,_aV _,λb u h hn _=>?_,λa h1 h2=>absurd h1 h2,λb hb=>(r.mt b hb).imp (λh=>⟨h,k.l b h⟩) λh=>⟨h,k.c b h,λ_ _ e=>k.k b _ e (by intro _ z;cases z) (by intro _ z;cases z) (by intro _ _ z;cases z)⟩,λb h=>vn h,λb h=>.inl (d.own h)⟩
 ·by_cases hj:l=j
  ·subst hj;rw[_P hll]at h;cases h;exact⟨a,ha,hc⟩
  ·rw[_I hj]at h;obtain⟨b,h1,h2⟩:=r.cell j ys h;refine⟨b,h1,h2.gen k (λ_ _ q=>q) (zg ?_) (_d h1) r.own (λc vs hc q=>by rw[zg (show c≠a from λz=>hc (z ▸ hai))];exact q)⟩;rintro rfl;have il:l<Y.length:=(_b.mp ha).1;have ij:j<Y.length:=(_b.mp h1).1;exact hj ((_aU r.nd).mp (((_b.mp ha).2).trans ((_b.mp h1).2).symm))
 ·rcases _aC h with h | h;·exact r.flat ys h
  ·rw[h];exact hf
 ·rw[zg (λz=>by subst z;exact hn hai)];exact h
theorem yw.put{l:Nat}{a:Addr}{xs:List D}{vs:List V}(r:Rep mg H Y s)(ha:Y[l]? = some a)(ka:IsL H a)(hd:zq mg H Y xs vs)(hf:D.flat.flats xs=true):yw mg H Y (upd H a (.lst vs)) Y (s.set l xs):= yw.putC r ha (.putL ka) (.inl ⟨vs,zu,hd.gen (.putL ka) λ_ _ q=>q⟩) hf
noncomputable def listOf(s:Sto):D->Option (List D)
 | .lst xs=>some xs | .loc l=>s[l]? | _=>none
noncomputable def ye(s:Sto):D->Option (List D)
 | .tup xs=>some xs | .lst xs=>some xs | .scr xs=>some xs | .loc l=>s[l]? | _=>none
theorem zQ{d:D}{xs:List D}{v:V}(r:Rep mg H Y s)(h:listOf s d=some xs)(dn:Den mg H Y d v):∃a vs,v=.ref a/\Rd H a (.lst vs)/\zq mg H Y xs vs:=by cases d with
 | lst ys=>
  simp only[listOf,_D]at h;subst h;simp only[Den]at dn;obtain⟨a,o,vs,e,h1,h2⟩:=dn;exact⟨a,vs,e,.inr ⟨o,h1⟩,h2⟩ | loc l=>
  simp only[Den]at dn;obtain⟨a,e,h1,k⟩:=dn;obtain⟨vs,h3,h4⟩:=r.at_ h h1 k;exact⟨a,vs,e,.inl h3,h4⟩ | _=>simp[listOf]at h
theorem zb4{xs:List D}{v:V}(dn:Den mg H Y (.scr xs) v):∃a vs,v=.ref a/\SqL mg.K H a vs/\zq mg H Y xs vs:=by
 simp only[Den]at dn;obtain⟨a,vs,e,h1,h2⟩:=dn;exact⟨a,vs,e,h1.elim (λ⟨o,h⟩=>.inl (.inr ⟨o,h⟩)) .inr,h2⟩
theorem uy{K:W.Frag}{d:D}{xs:List D}{v:V}(r:Rep mg H Y s)(h:ye s d=some xs)(dn:Den mg H Y d v)(hK:mg.K=K:=by rfl):∃a vs,v=.ref a/\(SqL K H a vs\/SqT K H a vs)/\zq mg H Y xs vs:=by cases d with
 | tup ys=>
  simp only[ye,_D]at h;subst h;simp only[Den]at dn;obtain⟨a,vs,e,h1,h2⟩:=dn;exact⟨a,vs,e,.inr (.inl (.inl h1)),h2⟩ | lst ys=>
  obtain⟨a,vs,e,h1,h2⟩:=zQ (d:=.lst ys) r h dn;exact⟨a,vs,e,.inl (.inl h1),h2⟩ | scr ys=>
  simp only[ye,_D]at h;subst h;subst hK;obtain⟨a,vs,e,h1,h2⟩:=zb4 dn;exact⟨a,vs,e,.inl h1,h2⟩ | loc l=>
  obtain⟨a,vs,e,h1,h2⟩:=zQ (d:=.loc l) r h dn;exact⟨a,vs,e,.inl (.inl h1),h2⟩ | _=>simp[ye]at h
theorem qB{K:W.Frag}{xs:List D}{v:V}(dn:Den mg H Y (.tup xs) v):∃a vs,v=.ref a/\SqT K H a vs/\zq mg H Y xs vs:=by
 simp only[Den]at dn;obtain⟨a,vs,e,h1,h2⟩:=dn;exact⟨a,vs,e,.inl (.inl h1),h2⟩
end
noncomputable def cap:Nat:=100000
theorem uJ{n:Nat}(h:n<=cap):n<=sizeLine:=_M h (by decide)
theorem z23{n:Nat}(h:n<cap):n<sizeLine:=_w h (by decide)
noncomputable def BIG:Nat:=2 ^ 4096
noncomputable def wT:D->D->Sto->R D
 | .int i,.int j,s=>.ok (.int (i+j)) s | .tup a,.tup b,s=>if a.length+b.length<=cap then .ok (.tup (a++b)) s else .no | x,y,s=>match listOf s x,listOf s y with
  | some a,some b=>if a.length+b.length<=cap then .ok (.lst (a++b)) s else .no | _,_=>.no
section
variable {X:Cx}{E:XK}
theorem yb{mg:Gm}{H:Hp}{Y:List Addr}{i:Int}{v:V}(h:Den mg H Y (.int i) v):v=.int i:=by simpa[Den] using h
theorem jv{mg:Gm}{H:Hp}{Y:List Addr}{i:Bool}{v:V}(h:Den mg H Y (.bl i) v):v=.bl i:=by simpa[Den] using h
theorem zbC{mg:Gm}{H:Hp}{Y:List Addr}{i:Str}{v:V}(h:Den mg H Y (.str i) v):v=.str i:=by simpa[Den] using h
theorem yW{mg:Gm}{H:Hp}{Y:List Addr}{i:Int}:Den mg H Y (.int i) (.int i):=by simp[Den]
theorem xQ{mg:Gm}{H:Hp}{Y:List Addr}{i:Bool}:Den mg H Y (.bl i) (.bl i):=by simp[Den]
theorem qM{mg:Gm}{H:Hp}{Y:List Addr}{s:Sto}{xs:List D}{vs:List V}{Q:VK}(r:Rep mg H Y s)(h:okR mg E H Y (Den mg) (.ok (.lst xs) s) Q)(hd:zq mg H Y xs vs):∀p,H p=none->z5D Q (.ref p) (upd H p (.lst vs)):=λp hp=>by
 refine⟨p,vs,rfl,zu,λo=>?_⟩;rw[z4M];have stp:=yw.lay (o:=.frz o (.lst vs)) r hp (by intro _ z;cases z);refine h _ _ _ stp ?_;simp only[Den];exact⟨p,o,vs,rfl,zu,hd.mono stp⟩
theorem kH{mg:Gm}{H:Hp}{Y:List Addr}{s:Sto}{xs:List D}{vs:List V}{Q:VK}(r:Rep mg H Y s)(h:okR mg E H Y (Den mg) (.ok (.tup xs) s) Q)(hd:zq mg H Y xs vs):∀p,H p=none->Q (.ref p) (upd H p (.tup vs)):=λp hp=>by
 have stp:=yw.lay (o:=.tup vs) r hp (by intro _ z;cases z);refine h _ _ _ stp ?_;simp only[Den];exact⟨p,vs,rfl,zu,hd.mono stp⟩
theorem wJ:∃r,OpR X (binaryOp .Add) r/\OpF X E r wT:=by
 refine⟨_,zes.or ((za8).or ((zbZ).or (z7b.freeze))),?_⟩;intro H Y s d1 d2 v1 v2 Q r h1 h2 h;have lists:∀a b,listOf s d1=some a->listOf s d2=some b->okR (gm X) E H Y (Den (gm X)) (if a.length+b.length<=cap then R.ok (D.lst (a++b)) s else .no) Q-> ∃l b xs zs,v1=.ref l/\v2=.ref b/\Rd H l (.lst xs)/\Rd H b (.lst zs)/\xs.length+zs.length<=sizeLine/\∀p,H p=none->z5D Q (.ref p) (upd H p (.lst (xs++zs))):=λa b ha hb hq=>by
  obtain⟨l,vs,e,q1,q2⟩:=zQ r ha h1;obtain⟨l',vs',e',q1',q2'⟩:=zQ r hb h2;split at hq
  ·rename_i hl;exact⟨l,l',vs,vs',e,e',q1,q1',by rw[q2.length,q2'.length];exact uJ hl,qM r hq (q2.append q2')⟩
  ·exact hq.elim
 unfold wT at h;split at h
 ·rename_i i j;cases yb h1;cases yb h2;exact .inl ⟨i,j,rfl,rfl,h.here r yW⟩
 ·rename_i a b;obtain⟨l,vs,rfl,q1,q2⟩:=qB (K:=X.K) h1;obtain⟨l',vs',rfl,q1',q2'⟩:=qB (K:=X.K) h2;split at h
  ·rename_i hl;cases a with
   | nil=>
    simp only[zq]at q2;subst q2;exact .inr (.inl ⟨l,l',vs',rfl,rfl,q1,q1',h.here r h2⟩) | cons x a=>
    have ne:vs≠[]:=λz=>by have:=q2.length;rw[z]at this;simp at this
    refine .inr (.inr (.inl ⟨l,l',vs,vs',rfl,rfl,q1,q1',ne,by rw[q2.length,q2'.length];exact uJ hl,λz=>?_,λz=>kH r h (q2.append q2')⟩));have eb:b=[]:=by
     have:=q2'.length;rw[z]at this;exact _bZ.mp this.symm
    subst eb;rw[List.append_nil]at h;exact h.here r h1
  ·exact h.elim
 ·split at h
  ·rename_i a b ha hb;exact .inr (.inr (.inr (lists a b ha hb h)))
  ·exact h.elim
end
noncomputable def dII(g:Int->Int->R D):D->D->Sto->R D
 | .int i,.int j,s=>match g i j with | .ok d _=>.ok d s | _=>.no
 | _,_,_=>.no
noncomputable def iOk(d:D):R D:=.ok d []
noncomputable def zaM:D->D->Sto->R D:=dII λi j=>iOk (.int (i-j))
noncomputable def qb:D->D->Sto->R D:=dII λi j=>if i.natAbs<BIG/\j.natAbs<BIG then iOk (.int (i*j)) else .no
noncomputable def z6i:D->D->Sto->R D:=dII λi j=>if 0<j/\j.natAbs<BIG then iOk (.int (i / j)) else .no
noncomputable def z8a:D->D->Sto->R D:=dII λi j=>if 0<j then iOk (.int (i % j)) else .no
noncomputable def zdh:D->D->Sto->R D:=dII λi j=>if 0<=j/\j<=1000/\i.natAbs<1000 then iOk (.int (i ^ j.toNat)) else .no
noncomputable def dLt:D->D->Sto->R D:=dII λi j=>iOk (.bl (decide (i<j)))
noncomputable def dLe:D->D->Sto->R D:=dII λi j=>iOk (.bl (decide (i<=j)))
noncomputable def dGt:D->D->Sto->R D:=dII λi j=>iOk (.bl (decide (j<i)))
noncomputable def dGe:D->D->Sto->R D:=dII λi j=>iOk (.bl (decide (j<=i)))
section
variable {X:Cx}{E:XK}
theorem jF{g:Int->Int->R D}{r:R2}(h:∀i j d t H Q,g i j=.ok d t->(∀v,(∀H Y,Den (gm X) H Y d v)->Q v H)->r (.int i) (.int j) H Q):OpF X E r (dII g):=by
 intro H Y s d1 d2 v1 v2 Q rp h1 h2 hq;unfold dII at hq;split at hq
 ·rename_i i j;cases yb h1;cases yb h2;split at hq
  ·rename_i d t e;exact h i j d t H Q e λv hv=>hq.here rp (hv H Y)
  ·exact hq.elim
 ·exact hq.elim
theorem za0:∃r,OpR X (binaryOp .Sub) r/\OpF X E r zaM:=⟨_,zdv,jF λi j d t H Q e q=>by
 simp only[iOk,R.ok.injEq]at e;exact⟨i,j,rfl,rfl,q _ (by intro H Y;rw[<- e.1];exact yW)⟩⟩
theorem z5N{i:Int}(h:i.natAbs<BIG):Builtin.Int.intBits i<=2 ^ 20:=by
 have q:Builtin.Int.intBits i<=4096:=(PySem.intBits_le_iff (m:=4096)).mpr h;omega
theorem zcS:OpR X (binaryOp .Mult) (rI (λi j=>i.natAbs<BIG/\j.natAbs<BIG) λi j=>.int (i*j)):=opI λ_ _ _ _ _ _ _ hc q=>mul_int q (IntMulOk.of_bits (z5N hc.1) (z5N hc.2))
theorem z0W:∃r,OpR X (binaryOp .Mult) r/\OpF X E r qb:=⟨_,zcS,jF λi j d t H Q e q=>by
 split at e
 ·rename_i hc;simp only[iOk,R.ok.injEq]at e;exact⟨i,j,rfl,rfl,hc,q _ (by intro H Y;rw[<- e.1];exact yW)⟩
 ·cases e⟩
theorem zbV{j:Int}(h:j.natAbs<BIG):j.natAbs.log2<9000:=by
 by_cases h0:j.natAbs=0;·rw[h0];decide +kernel
 ·have:j.natAbs.log2<4096:=(Nat.log2_lt h0).mpr h;omega
theorem zao:OpR X (binaryOp .FloorDiv) (rI (λ_ j=>0<j/\j.natAbs<BIG) λi j=>.int (i / j)):=opI λi j _ _ _ _ _ hc q=>by
 refine floordiv_int (by omega) ?_ (.inl (PyProof.noPylong_of_log2 (zbV hc.2)));rw[Int.fdiv_eq_ediv_of_nonneg _ (by omega)];exact q
theorem zba:∃r,OpR X (binaryOp .FloorDiv) r/\OpF X E r z6i:=⟨_,zao,jF λi j d t H Q e q=>by
 split at e
 ·rename_i hc;simp only[iOk,R.ok.injEq]at e;exact⟨i,j,rfl,rfl,hc,q _ (by intro H Y;rw[<- e.1];exact yW)⟩
 ·cases e⟩
theorem z9B:∃r,OpR X (binaryOp .Mod) r/\OpF X E r z8a:=⟨_,zdF,jF λi j d t H Q e q=>by
 split at e
 ·rename_i hc;simp only[iOk,R.ok.injEq]at e;exact⟨i,j,rfl,rfl,hc,q _ (by intro H Y;rw[<- e.1];exact yW)⟩
 ·cases e⟩
theorem zew:∃r,OpR X (binaryOp .Pow) r/\OpF X E r zdh:=⟨_,zeX,jF λi j d t H Q e q=>by
 split at e
 ·rename_i hc;simp only[iOk,R.ok.injEq]at e;exact⟨i,j,rfl,rfl,⟨hc.1,by omega,by omega⟩,q _ (by intro H Y;rw[<- e.1];exact yW)⟩
 ·cases e⟩
theorem zh8:∃r,OpR X (compareOp .Lt) r/\OpF X E r dLt:=⟨_,zgu,jF λi j d t H Q e q=>by
 simp only[iOk,R.ok.injEq]at e;exact⟨i,j,rfl,rfl,q _ (by intro H Y;rw[<- e.1];exact xQ)⟩⟩
theorem zds:∃r,OpR X (compareOp .LtE) r/\OpF X E r dLe:=⟨_,zfB,jF λi j d t H Q e q=>by
 simp only[iOk,R.ok.injEq]at e;exact⟨i,j,rfl,rfl,q _ (by intro H Y;rw[<- e.1];exact xQ)⟩⟩
theorem zfg:∃r,OpR X (compareOp .Gt) r/\OpF X E r dGt:=⟨_,zg4,jF λi j d t H Q e q=>by
 simp only[iOk,R.ok.injEq]at e;exact⟨i,j,rfl,rfl,q _ (by intro H Y;rw[<- e.1];exact xQ)⟩⟩
theorem zgw:∃r,OpR X (compareOp .GtE) r/\OpF X E r dGe:=⟨_,zg9,jF λi j d t H Q e q=>by
 simp only[iOk,R.ok.injEq]at e;exact⟨i,j,rfl,rfl,q _ (by intro H Y;rw[<- e.1];exact xQ)⟩⟩
end
mutual
noncomputable def wm:D->PyData
 | .non=>.none | .bl b=>.bool b | .int i=>.int i | .str x=>.str x | .tup xs=>.tuple (toPys xs) | .lst xs=>.list (toPys xs) | _=>.dict []
noncomputable def toPys:List D->List PyData
 | []=>[] | d::ds=>wm d::toPys ds
end
noncomputable def eqD(a b:D):Bool:=PyData.eqv (wm a) (wm b)
noncomputable def z98(d:D):Bool:=SeqAt.shaped (wm d)
noncomputable def dEq(x y:D)(s:Sto):R D:=if z98 x=true/\z98 y=true then .ok (.bl (eqD x y)) s else .no
noncomputable def dNe(x y:D)(s:Sto):R D:=if z98 x=true/\z98 y=true then .ok (.bl (!eqD x y)) s else .no
section
variable {P:Program}{w:World}{mg:Gm}{H:Hp}{Y:List Addr}{h:Heap}
mutual
theorem Den.reads(ok:HOk P w H h):∀{d:D}{v:V}{u:Value},PyData.canLay0 (wm d)=true->Den mg H Y d v->yq v u->∃as,Reads h u (wm d) as
 | .non,_,_,_,dn,r=>by simp only[Den]at dn;subst dn;cases r;exact⟨_,by simpa[wm] using Reads.none⟩ | .bl b,_,_,_,dn,r=>by simp only[Den]at dn;subst dn;cases r;exact⟨_,by simpa[wm] using Reads.bool b⟩ | .int i,_,_,_,dn,r=>by simp only[Den]at dn;subst dn;obtain⟨t,rfl⟩:=r;exact⟨_,by simpa[wm] using Reads.int i t⟩ | .str x,_,_,_,dn,r=>by simp only[Den]at dn;subst dn;obtain⟨t,rfl⟩:=r;exact⟨_,by simpa[wm] using Reads.str x t⟩ | .tup ds,_,_,c,dn,r=>by
  simp only[Den]at dn;obtain⟨a,vs,rfl,h1,h2⟩:=dn;cases r;obtain⟨_,its,rv,o,e,hc,_,n,hd⟩:=ok a _ h1;obtain⟨as,q⟩:=zq.reads ok (by simpa[wm,PyData.canLay0] using c) h2 rv;rw[wm];exact⟨as,Reads.tuple e hc hd (by simpa using q)⟩ | .lst ds,_,_,c,dn,r=>by
  simp only[Den]at dn;obtain⟨a,o,vs,rfl,h1,h2⟩:=dn;cases r;obtain⟨_,_,its,n,rv,e⟩:=ok a _ h1;obtain⟨as,q⟩:=zq.reads ok (by simpa[wm,PyData.canLay0] using c) h2 rv;rw[wm];exact⟨_,Reads.list e rfl rfl (by simpa using q)⟩ | .dct,_,_,c,_,_=>by simp[wm,PyData.canLay0]at c | .loc _,_,_,c,_,_=>by simp[wm,PyData.canLay0]at c | .fn _,_,_,c,_,_=>by simp[wm,PyData.canLay0]at c | .exc _,_,_,c,_,_=>by simp[wm,PyData.canLay0]at c
theorem zq.reads(ok:HOk P w H h):∀{ds:List D}{vs:List V}{us:List Value},PyData.canLayAll0 (toPys ds)=true->zq mg H Y ds vs->yF vs us->∃as,ReadsAll h us (toPys ds) as
 | [],_,_,_,dn,r=>by simp only[zq]at dn;subst dn;cases r;exact⟨_,by simpa[toPys] using ReadsAll.nil⟩ | d::ds,_,_,c,dn,r=>by
  simp only[zq]at dn;obtain⟨v,vs,rfl,h1,h2⟩:=dn;simp only[toPys,PyData.canLayAll0,_p]at c;cases r with | cons r1 r2=>
   obtain⟨as,q⟩:=Den.reads ok c.1 h1 r1;obtain⟨bs,q'⟩:=zq.reads ok c.2 h2 r2;rw[toPys];exact⟨_,ReadsAll.cons q q'⟩
end
end
section
variable {X:Cx}{E:XK}
def zgZ(mg:Gm)(neg:Bool):R2:=λx y H Q=>∃Y d1 d2,Den mg H Y d1 x/\Den mg H Y d2 y/\z98 d1=true/\z98 d2=true/\Q (.bl (if neg then !eqD d1 d2 else eqD d1 d2)) H
theorem zeK(hu:X.A.units+64<cLine):OpR X (compareOp .Eq) (zgZ (gm X) false):=by
 intro pins s O H x y v u Q I rx ry ⟨Y,d1,d2,h1,h2,p1,p2,q⟩;obtain⟨as,ra⟩:=Den.reads I.hok (_bw p1) h1 rx;obtain⟨bs,rb⟩:=Den.reads I.hok (_bw p2) h2 ry;exact SeqAt.compareEq_shaped ra rb p1 p2 hu ⟨.bl (eqD d1 d2),H,I,rfl,q⟩
theorem zfk(hu:X.A.units+64<cLine):OpR X (compareOp .NotEq) (zgZ (gm X) true):=by
 intro pins s O H x y v u Q I rx ry ⟨Y,d1,d2,h1,h2,p1,p2,q⟩;obtain⟨as,ra⟩:=Den.reads I.hok (_bw p1) h1 rx;obtain⟨bs,rb⟩:=Den.reads I.hok (_bw p2) h2 ry;exact SeqAt.compareNe_shaped ra rb p1 p2 hu ⟨.bl (!eqD d1 d2),H,I,rfl,q⟩
theorem z7B(hu:X.A.units+64<cLine):∃r,OpR X (compareOp .Eq) r/\OpF X E r dEq:=⟨_,zeK hu,λH Y s d1 d2 v1 v2 Q r h1 h2 h=>by
 unfold dEq at h;split at h
 ·rename_i hc;exact⟨Y,d1,d2,h1,h2,hc.1,hc.2,h.here r xQ⟩
 ·exact h.elim⟩
theorem zdc(hu:X.A.units+64<cLine):∃r,OpR X (compareOp .NotEq) r/\OpF X E r dNe:=⟨_,zfk hu,λH Y s d1 d2 v1 v2 Q r h1 h2 h=>by
 unfold dNe at h;split at h
 ·rename_i hc;exact⟨Y,d1,d2,h1,h2,hc.1,hc.2,h.here r xQ⟩
 ·exact h.elim⟩
noncomputable def zeb:D->Option V
 | .non=>some .non | .bl b=>some (.bl b) | .int i=>some (.int i) | .str x=>some (.str x) | _=>none
noncomputable def zcu:List D->Option (List V)
 | []=>some [] | d::ds=>match zeb d,zcu ds with | some v,some vs=>some (v::vs) | _,_=>none
noncomputable def dIs:D->D->Sto->R D
 | .bl a,.bl b,s=>.ok (.bl (a==b)) s | .non,.non,s=>.ok (.bl true) s | .bl _,.non,s=>.ok (.bl false) s | .int _,.non,s=>.ok (.bl false) s | .str _,.non,s=>.ok (.bl false) s | .tup _,.non,s=>.ok (.bl false) s | .lst _,.non,s=>.ok (.bl false) s | _,_,_=>.no
theorem zf3:OpR X (compareOp .Is) (λx y H Q=>∃a b,x=.bl a/\y=.bl b/\Q (.bl (a==b)) H):=by
 intro pins s O H x y v u Q I rx ry ⟨a,b,e1,e2,q⟩;subst e1 e2;cases rx;cases ry;exact is_bool ⟨.bl (a==b),H,I,rfl,q⟩
theorem zfO:∃r,OpR X (compareOp .Is) r/\OpF X E r dIs:=⟨_,zf3.or zdp,λH Y s d1 d2 v1 v2 Q r h1 h2 h=>by
 unfold dIs at h;split at h
 ·cases jv h1;cases jv h2;exact .inl ⟨_,_,rfl,rfl,h.here r xQ⟩
 ·simp only[Den]at h1 h2;subst h1 h2;exact .inr ⟨rfl,by have:=h.here r xQ;simpa using this⟩
 ·simp only[Den]at h1 h2;subst h1 h2;exact .inr ⟨rfl,by have:=h.here r xQ;simpa using this⟩
 ·simp only[Den]at h1 h2;subst h1 h2;exact .inr ⟨rfl,by have:=h.here r xQ;simpa using this⟩
 ·simp only[Den]at h1 h2;subst h1 h2;exact .inr ⟨rfl,by have:=h.here r xQ;simpa using this⟩
 ·simp only[Den]at h1 h2;obtain⟨a,vs,rfl,_⟩:=h1;subst h2;exact .inr ⟨rfl,by have:=h.here r xQ;simpa using this⟩
 ·simp only[Den]at h1 h2;obtain⟨a,o,vs,rfl,_⟩:=h1;subst h2;exact .inr ⟨rfl,by have:=h.here r xQ;simpa using this⟩
 ·exact h.elim⟩
noncomputable def dIx(x y:D)(s:Sto):R D:=match y,ye s x with
 | .int i,some xs=>match atI xs i with | some d=>.ok d s | none=>.no
 | _,_=>.no
theorem z9x{mg:Gm}{H:Hp}{Y:List Addr}{xs:List D}{vs:List V}{i:Int}{d:D}(h:zq mg H Y xs vs)(e:atI xs i=some d):∃v,atI vs i=some v/\Den mg H Y d v:=by
 unfold atI at e ⊢;rw[h.length];cases q:ixN xs.length i with
 | none=>rw[q]at e;cases e | some j=>
  rw[q]at e;exact h.get e
theorem zhM:∃r,IxR X r/\OpF X E r dIx:=⟨_,zc8.or zez,λH Y s d1 d2 v1 v2 Q r h1 h2 h=>by
 unfold dIx at h;split at h
 ·rename_i i xs e;split at h
  ·rename_i d e2;cases yb h2;obtain⟨a,vs,rfl,q1,q2⟩:=uy (K:=X.K) r e h1;obtain⟨v,e3,e4⟩:=z9x q2 e2;rcases q1 with q1 | q1;·exact .inl ⟨a,vs,i,v,rfl,rfl,q1,e3,h.here r e4⟩
   ·exact .inr ⟨a,vs,i,v,rfl,rfl,q1,e3,h.here r e4⟩
  ·exact h.elim
 ·exact h.elim⟩
end
section
variable {X:Cx}{E:XK}{e a b c:Expr}{es:List Expr}{pos:Pos}
theorem yg{op:Operator}{fo:D->D->Sto->R D}{fa fb:FE}(ho:∃r,OpR X (binaryOp op) r/\OpF X E r fo)(ha:RE X E a fa)(hb:RE X E b fb):RE X E (.BinOp a op b pos) (eOp fo fa fb):=let ⟨_,h⟩:=ho;zhm h ha hb
theorem wQ{op:CmpOp}{fo:D->D->Sto->R D}{fa fb:FE}(ho:∃r,OpR X (compareOp op) r/\OpF X E r fo)(ha:RE X E a fa)(hb:RE X E b fb)(hm:behindInMarks op b=false:=by first | exact zbm _ | rfl):RE X E (.Compare a [op] [b] pos) (eOp fo fa fb):=let ⟨_,h⟩:=ho;zfA h ha hb hm
noncomputable def tOf(f:FE):FT:=fun ρ s=>(f ρ s).bind λd s1=>match d with | .bl k=>.ok k s1 | _=>.no
theorem z29{f:FE}{O:L2.St}{H:Hp}{Q:Bool->Hp->Prop}(h:tT (gm X) E (tOf f) O H Q):zcc (tE (gm X) E f) O H Q:=by
 obtain⟨Y,ρ,s,r,en,h⟩:=h;refine yd (k:=fun ρ d s1=>match d with | .bl k=>.ok k s1 | _=>.no) r en h _ λv H1 Y1 s1 d r1 en1 dn stp h1=>?_;cases d with
 | bl k=>
  cases jv dn;exact⟨k,rfl,h1.here (b:=k) r1 rfl⟩ | _=>exact h1.elim
theorem wl{op:CmpOp}{fo:D->D->Sto->R D}{fa fb:FE}(ho:∃r,OpR X (compareOp op) r/\OpF X E r fo)(ha:RE X E a fa)(hb:RE X E b fb)(hm:behindInMarks op b=false:=by first | exact zbm _ | rfl):RT X E (.Compare a [op] [b] pos) (tOf (eOp fo fa fb)):=by
 obtain⟨r,h1,h2⟩:=ho;exact z5R (zc2 h1 ha hb hm) λO H Q h=>by
  have q:=z29 h;exact z5T h2 q
noncomputable def z26(fo fo':D->D->Sto->R D)(fa fb fc:FE):FE:=fun ρ s=>(fa ρ s).bind λx s1=>(fb ρ s1).bind λy s2=>(fo x y s2).bind λz s3=>match z with
 | .bl true=>(fc ρ s3).bind λw s4=>fo' y w s4 | .bl false=>.ok (.bl false) s3 | _=>.no
theorem z3T{r r':R2}{fo fo':D->D->Sto->R D}{fa fb fc:FE}(ho:OpF X E r fo)(ho':OpF X E r' fo'){O:L2.St}{H:Hp}{Q:VK}(h:tE (gm X) E (z26 fo fo' fa fb fc) O H Q):z7x r r' (tE (gm X) E fa) (tE (gm X) E fb) (tE (gm X) E fc) O H Q:=by
 obtain⟨Y,ρ,s,rp,en,h⟩:=h;refine yd (k:=fun ρ x s1=>(fb ρ s1).bind λy s2=>(fo x y s2).bind λz s3=>match z with
  | .bl true=>(fc ρ s3).bind λw s4=>fo' y w s4 | .bl false=>.ok (.bl false) s3 | _=>.no) rp en h _ λv H1 Y1 s1 d r1 en1 dn stp h1=>?_;refine yd (k:=fun ρ y s2=>(fo d y s2).bind λz s3=>match z with
  | .bl true=>(fc ρ s3).bind λw s4=>fo' y w s4 | .bl false=>.ok (.bl false) s3 | _=>.no) r1 en1 h1 _ λv2 H2 Y2 s2 d2 r2 en2 dn2 stp2 h2=>?_;refine ho H2 Y2 s2 d d2 v v2 _ r2 (dn.mono stp2) dn2 ((okR.bind (Dn:=Den (gm X)) h2).imp λv3 H3 ⟨Y3,s3,d3,stp3,dn3,h3⟩=>?_);cases d3 with
 | bl k=>
  cases jv dn3;refine⟨k,rfl,?_⟩;cases k with
  | true=>
   rw[_g rfl];refine yd (k:=fun ρ w s4=>fo' d2 w s4) stp3.rep (en2.mono stp3) h3 _ λv4 H4 Y4 s4 d4 r4 en4 dn4 stp4 h4=>?_;exact ho' H4 Y4 s4 d2 d4 v2 v4 Q r4 ((dn2.mono stp3).mono stp4) dn4 h4 | false=>
   rw[_j (by decide)];exact okR.here (b:=V.bl false) h3 stp3.rep xQ
 | _=>exact h3.elim
theorem zcn{op op':CmpOp}{fo fo':D->D->Sto->R D}{fa fb fc:FE}(ho:∃r,OpR X (compareOp op) r/\OpF X E r fo)(ho':∃r,OpR X (compareOp op') r/\OpF X E r fo')(ha:RE X E a fa)(hb:RE X E b fb)(hc:RE X E c fc) (hm:lastMarks [op,op'] [b,c]=false:=by with_unfolding_all rfl):RE X E (.Compare a [op,op'] [b,c] pos) (z26 fo fo' fa fb fc):=by
 obtain⟨r,h1,h2⟩:=ho;obtain⟨r',h1',h2'⟩:=ho';exact yh (za6 h1 h1' ha hb hc hm) λO H Q h=>z3T h2 h2' h
noncomputable def z2I(fa fb:FE):FE:=fun ρ s=>(fa ρ s).bind λx s1=>match x with | .bl true=>fb ρ s1 | .bl false=>.ok (.bl false) s1 | _=>.no
noncomputable def zfy(fa:FE):FE:=fun ρ s=>(fa ρ s).bind λx s1=>match x with | .bl k=>.ok (.bl (!k)) s1 | _=>.no
variable {z0h:List Expr}
theorem z06{op:BoolOp}{f:FE}(h:RE X E a f):RE X E (.BoolOp op [a] pos) f:=ze8 h
theorem ki{fa fb:FE}(ha:RE X E a fa)(hb:RE X E (.BoolOp .And (b::z0h) pos) fb):RE X E (.BoolOp .And (a::b::z0h) pos) (z2I fa fb):= yh (zdr ha hb) λO H Q ⟨Y,ρ,s,r,en,h⟩=>by
  refine yd (k:=fun ρ x s1=>match x with | .bl true=>fb ρ s1 | .bl false=>.ok (.bl false) s1 | _=>.no) r en h _ λv H1 Y1 s1 d r1 en1 dn stp h1=>?_;cases d with
  | bl k=>
   cases jv dn;refine⟨k,rfl,?_⟩;cases k with
   | true=>rw[_g rfl];exact⟨Y1,ρ,s1,r1,en1,h1⟩ | false=>rw[_j (by decide)];exact okR.here (b:=V.bl false) h1 r1 xQ
  | _=>exact h1.elim
theorem ze5{fa:FE}(ha:RE X E a fa):RE X E (.UnaryOp .Not a pos) (zfy fa):= yh (zf0 ha) λO H Q ⟨Y,ρ,s,r,en,h⟩=>by
  refine yd (k:=fun ρ x s1=>match x with | .bl k=>R.ok (D.bl (!k)) s1 | _=>.no) r en h _ λv H1 Y1 s1 d r1 en1 dn stp h1=>?_;cases d with
  | bl k=>
   cases jv dn;exact⟨k,rfl,okR.here (b:=V.bl (!k)) h1 r1 xQ⟩ | _=>exact h1.elim
noncomputable def fOr(fa fb:FT):FT:=fun ρ s=>(fa ρ s).bind λx s1=>if x=true then .ok true s1 else fb ρ s1
noncomputable def jl(fa:FT):FT:=fun ρ s=>(fa ρ s).bind λx s1=>.ok (!x) s1
def RW(X:Cx)(E:XK)(e:Expr)(f:FT):Prop:=PW X e (tT (gm X) E f)
theorem RW.rt{f:FT}(h:RW X E e f):RT X E e f:=PW.pt h
theorem zee{t t':TT}(h:PW X e t)(i:∀O H Q,t' O H Q->t O H Q):PW X e t':=λwh pins s O H Q I q=>h wh pins s O H Q I (i O H Q q)
theorem z2K{f:FT}(h:RT X E a f):RW X E (.BoolOp .Or [a] pos) f:=zel h
theorem z99{fa fb:FT}(ha:RT X E a fa)(hb:RW X E (.BoolOp .Or (b::z0h) pos) fb):RW X E (.BoolOp .Or (a::b::z0h) pos) (fOr fa fb):= zee (zgl ha hb) λO H Q ⟨Y,ρ,s,r,en,h⟩=>by
  refine z50 (k:=fun ρ x s1=>if x=true then .ok true s1 else fb ρ s1) r en h _ λv H1 Y1 s1 r1 en1 stp h1=>?_;cases v with
  | false=>rw[_j (by decide)]at h1 ⊢;exact⟨Y1,ρ,s1,r1,en1,h1⟩ | true=>rw[_g rfl]at h1 ⊢;exact h1.here r1 rfl
theorem jg{fa:FT}(ha:RT X E a fa):RT X E (.UnaryOp .Not a pos) (jl fa):= z5R (zdO ha) λO H Q ⟨Y,ρ,s,r,en,h⟩=>z50 (k:=fun ρ x s1=>.ok (!x) s1) r en h _ λv H1 Y1 s1 r1 en1 stp h1=>h1.here r1 rfl
theorem qg{f:FE}(h:RE X E a f)(he:∀whole,isTrue a X.env whole=(do let v <- whole;standAt a.pos;holding [v] (truthy v)):=by intro _;rfl):RT X E a (tOf f):= z5R (zeT h he) λO H Q h=>z29 h
theorem z28 {fa fb:FE} (ha:RE X E a fa) (hb:RE X E b fb) (hs:z8k b:=by intro _ _;rfl):RE X E (.Subscript a b pos) (eOp dIx fa fb):=by
 obtain⟨r,h1,h2⟩:=zhM (X:=X) (E:=E);exact yh (zg5 h1 ha hb hs) λO H Q h=>z5T h2 h
noncomputable def zi:FA:=λ_ s=>.ok [] s
noncomputable def za(fa:FE)(fr:FA):FA:=fun ρ s=>(fa ρ s).bind λx s1=>(fr ρ s1).bind λxs s2=>.ok (x::xs) s2
theorem zf:RA X E [] zi:=zaS jy λO H Q ⟨Y,ρ,s,r,en,h⟩=>h.here r zq.nil
theorem jq{fa:FE}{fr:FA}(ha:RE X E e fa)(hr:RA X E es fr)(hs:starEach (e::es) X.env=(false,eval e X.env)::starEach es X.env:=by rfl):RA X E (e::es) (za fa fr):= zaS (qj ha hr hs) λO H Q ⟨Y,ρ,s,r,en,h⟩=>by
  refine yd (k:=fun ρ x s1=>(fr ρ s1).bind λxs s2=>.ok (x::xs) s2) r en h _ λv H1 Y1 s1 d r1 en1 dn stp h1=>?_;refine uY (k:=fun ρ xs s2=>.ok (d::xs) s2) r1 en1 h1 _ λvs H2 Y2 s2 ds r2 en2 dn2 stp2 h2=>?_;exact h2.here r2 (zq.cons (dn.mono stp2) dn2)
noncomputable def vA(f:FA):FE:=fun ρ s=>(f ρ s).bind λxs s1=>if xs.length<=cap then .ok (.tup xs) s1 else .no
theorem vH{f:FA}{x1:Nat}(h:RA X E es f):RE X E (.Tuple es x1 pos) (vA f):= yh (zdM h) λO H Q ⟨Y,ρ,s,r,en,h⟩=>by
  refine uY (k:=fun ρ xs s1=>if xs.length<=cap then R.ok (D.tup xs) s1 else .no) r en h _ λvs H2 Y2 s2 ds r2 en2 dn2 stp2 h2=>?_;split at h2
  ·rename_i hl;exact⟨by rw[dn2.length];exact uJ hl,kH r2 h2 dn2⟩
  ·exact h2.elim
noncomputable def z04(f:FA):FE:=fun ρ s=>(f ρ s).bind λxs s1=>if xs.length<=cap then .ok (.lst xs) s1 else .no
theorem jX{f:FA}(h:RA X E es f):RE X E (.List es pos) (z04 f):= yh (z22 h).freeze λO H Q ⟨Y,ρ,s,r,en,h⟩=>by
  refine uY (k:=fun ρ xs s1=>if xs.length<=cap then R.ok (D.lst xs) s1 else .no) r en h _ λvs H2 Y2 s2 ds r2 en2 dn2 stp2 h2=>?_;split at h2
  ·rename_i hl;exact⟨by rw[dn2.length];exact uJ hl,qM r2 h2 dn2⟩
  ·exact h2.elim
noncomputable def zdi(f:FA):FE:=fun ρ s=>(f ρ s).bind λxs s1=>if xs.length<=cap/\D.flat.flats xs=true then .ok (.loc s1.length) (s1++[xs]) else .no
theorem zdt{mg:Gm}{H:Hp}{Y:List Addr}{s:Sto}{xs:List D}{vs:List V}{Q:VK}(r:Rep mg H Y s)(h:okR mg E H Y (Den mg) (.ok (.loc s.length) (s++[xs])) Q)(hf:D.flat.flats xs=true)(hd:zq mg H Y xs vs):∀p,H p=none->Q (.ref p) (upd H p (.lst vs)):=λp hp=>by
 refine h _ _ _ (yw.layL r hp hd hf) ?_;simp only[Den];exact⟨p,rfl,by rw[<- r.len];simp,vs,zu⟩
theorem zar{f:FA}(h:RA X E es f):RE X E (.List es pos) (zdi f):= yh (z22 h) λO H Q ⟨Y,ρ,s,r,en,h⟩=>by
  refine uY (k:=fun ρ xs s1=>if xs.length<=cap/\D.flat.flats xs=true then R.ok (D.loc s1.length) (s1++[xs]) else .no) r en h _ λvs H2 Y2 s2 ds r2 en2 dn2 stp2 h2=>?_;split at h2
  ·rename_i hl;exact⟨by rw[dn2.length];exact uJ hl.1,zdt r2 h2 hl.2 dn2⟩
  ·exact h2.elim
def jH(X:Cx)(E:XK)(r:List V->Hp->VK->Prop)(g:List D->Sto->R D):Prop:= ∀H Y s ds vs (Q:VK),Rep (gm X) H Y s->zq (gm X) H Y ds vs->okR (gm X) E H Y (Den (gm X)) (g ds s) Q->r vs H Q
noncomputable def ze(g:List D->Sto->R D)(f:FA):FE:=fun ρ s=>(f ρ s).bind λxs s1=>g xs s1
theorem zF {x:Str} {p:Pos} {id:String} {g:List D->Sto->R D} {f:FA} (hc:∃r,xG X (.builtin id) r/\jH X E r g) (hg:Gl X x) (hm:X.mg x=none) (hv:bootBuiltins x=some (.builtin id)) (ha:RA X E (e::es) f) (hn:x≠"__name__":=by decide) (hdb:(x==("__debug__":Str))=false:=by decide) (he:starEach (e::es) X.env=(false,eval e X.env)::starEach es X.env:=by rfl) (hpl:(backTo pos (starEach es X.env)).any (·.1)=false:=by rfl):RE X E (.Call (.Name x p) (e::es) [] pos) (ze g f):=by
 obtain⟨r,h1,h2⟩:=hc;exact yh (z5X h1 hg hm hv ha hn hdb he hpl) λO H Q ⟨Y,ρ,s,r,en,h⟩=> uY (k:=fun ρ xs s1=>g xs s1) r en h _ λvs H2 Y2 s2 ds r2 en2 dn2 stp2 h3=>h2 H2 Y2 s2 ds vs Q r2 dn2 h3
theorem uW {x:Str} {p:Pos} {T:String} {g:List D->Sto->R D} {f:FA} (hc:∃r,xG X (.type T) r/\jH X E r g) (hg:Gl X x) (hm:X.mg x=none) (hv:bootBuiltins x=some (.type T)) (ha:RA X E (e::es) f) (hn:x≠"__name__":=by decide) (hdb:(x==("__debug__":Str))=false:=by decide) (he:starEach (e::es) X.env=(false,eval e X.env)::starEach es X.env:=by rfl) (hpl:(backTo pos (starEach es X.env)).any (·.1)=false:=by rfl):RE X E (.Call (.Name x p) (e::es) [] pos) (ze g f):=by
 obtain⟨r,h1,h2⟩:=hc;exact yh (z8D h1 hg hm hv ha hn hdb he hpl) λO H Q ⟨Y,ρ,s,r,en,h⟩=> uY (k:=fun ρ xs s1=>g xs s1) r en h _ λvs H2 Y2 s2 ds r2 en2 dn2 stp2 h3=>h2 H2 Y2 s2 ds vs Q r2 dn2 h3
theorem z0F{mg:Gm}{H:Hp}{Y:List Addr}{d:D}{vs:List V}(h:zq mg H Y [d] vs):∃v,vs=[v]/\Den mg H Y d v:=by
 simp only[zq]at h;obtain⟨v,r,rfl,h1,rfl⟩:=h;exact⟨v,rfl,h1⟩
theorem z4B{mg:Gm}{H:Hp}{Y:List Addr}{d d':D}{vs:List V}(h:zq mg H Y [d,d'] vs):∃v v',vs=[v,v']/\Den mg H Y d v/\Den mg H Y d' v':=by
 simp only[zq]at h;obtain⟨v,r,rfl,h1,v',r',rfl,h2,rfl⟩:=h;exact⟨v,v',rfl,h1,h2⟩
noncomputable def xL:List D->Sto->R D
 | [d],s=>match ye s d with | some xs=>.ok (.int xs.length) s | none=>.no
 | _,_=>.no
theorem uZ:∃r,xG X (.builtin "len") r/\jH X E r xL:=⟨_,z3J,λH Y s ds vs Q r hd h=>by
 unfold xL at h;split at h
 ·split at h
  ·rename_i d xs e;obtain⟨v,rfl,dn⟩:=z0F hd;obtain⟨a,ws,rfl,q1,q2⟩:=uy (K:=X.K) r e dn;exact⟨a,ws,rfl,q1,by rw[q2.length];exact h.here r yW⟩
  ·exact h.elim
 ·exact h.elim⟩
noncomputable def wn:List D->Sto->R D
 | [d],s=>match ye s d with | some xs=>.ok (.tup xs) s | none=>.no
 | _,_=>.no
theorem ku:∃r,xG X (.type "tuple") r/\jH X E r wn:=⟨_,z34,λH Y s ds vs Q r hd h=>by match ds,hd,h with
 | [],_,h=>exact h.elim | _::_::_,_,h=>exact h.elim | [d],hd,h=>
  obtain⟨v,rfl,dn⟩:=z0F hd;simp only[wn]at h;cases e:ye s d with
  | none=>rw[e]at h;exact h.elim | some xs=>
   rw[e]at h;cases d with
   | tup ys=>
    simp only[ye,_D]at e;subst e;obtain⟨a,ws,rfl,q1,q2⟩:=qB (K:=X.K) dn;exact⟨a,ws,rfl,.inr ⟨q1,h.here r dn⟩⟩ | lst ys=>
    obtain⟨a,ws,rfl,q1,q2⟩:=zQ (d:=.lst ys) r e dn;exact⟨a,ws,rfl,.inl ⟨.inl q1,kH r h q2⟩⟩ | loc l=>
    obtain⟨a,ws,rfl,q1,q2⟩:=zQ (d:=.loc l) r e dn;exact⟨a,ws,rfl,.inl ⟨.inl q1,kH r h q2⟩⟩ | scr ys=>
    simp only[ye,_D]at e;subst e;obtain⟨a,ws,rfl,q1,q2⟩:=zb4 dn;exact⟨a,ws,rfl,.inl ⟨q1,kH r h q2⟩⟩ | _=>simp[ye]at e⟩
noncomputable def z6R:List D->Sto->R D
 | [d],s=>match ye s d with | some xs=>.ok (.lst xs) s | none=>.no
 | _,_=>.no
theorem zaQ:∃r,xG X (.type "list") r/\jH X E r z6R:=⟨_,z4w.freeze,λH Y s ds vs Q r hd h=>by
 unfold z6R at h;split at h
 ·split at h
  ·rename_i d xs e;obtain⟨v,rfl,dn⟩:=z0F hd;obtain⟨a,ws,rfl,q1,q2⟩:=uy (K:=X.K) r e dn;exact⟨a,ws,rfl,q1,qM r h q2⟩
  ·exact h.elim
 ·exact h.elim⟩
noncomputable def z48:List D->Sto->R D
 | [.int i,.int j],s=>.ok (.int (if j > i then j else i)) s | _,_=>.no
noncomputable def zay:List D->Sto->R D
 | [.int i,.int j],s=>.ok (.int (if j<i then j else i)) s | _,_=>.no
theorem zbt(hc:X.calm=true):∃r,xG X (.builtin "max") r/\jH X E r z48:=⟨_,z8d hc,λH Y s ds vs Q r hd h=>by
 unfold z48 at h;split at h
 ·rename_i i j;obtain⟨v,v',rfl,d1,d2⟩:=z4B hd;cases yb d1;cases yb d2;exact⟨i,j,rfl,h.here r yW⟩
 ·exact h.elim⟩
theorem zeB(hc:X.calm=true):∃r,xG X (.builtin "min") r/\jH X E r zay:=⟨_,z7g hc,λH Y s ds vs Q r hd h=>by
 unfold zay at h;split at h
 ·rename_i i j;obtain⟨v,v',rfl,d1,d2⟩:=z4B hd;cases yb d1;cases yb d2;exact⟨i,j,rfl,h.here r yW⟩
 ·exact h.elim⟩
abbrev FO:=Ev->Sto->R (Option Int)
def oD(_:Hp)(_:List Addr)(a b:Option Int):Prop:=a=b
def tO(mg:Gm)(E:XK)(f:FO):TO:=λO H Q=>∃Y ρ s,Rep mg H Y s/\vF mg H Y ρ O/\okR mg E H Y oD (f ρ s) Q
def RO(X:Cx)(E:XK)(e:Option Expr)(f:FO):Prop:=PO X e (tO (gm X) E f)
theorem zaP{o:Option Expr}{t t':TO}(h:PO X o t)(i:∀O H Q,t' O H Q->t O H Q):PO X o t':=λpins s O H Q I q=>h pins s O H Q I (i O H Q q)
noncomputable def yo:FO:=λ_ s=>.ok none s
noncomputable def vw(f:FE):FO:=fun ρ s=>(f ρ s).bind λd s1=>match d with | .int i=>.ok (some i) s1 | _=>.no
theorem kI:RO X E none yo:=zaP zc4 λO H Q ⟨Y,ρ,s,r,en,h⟩=>h.here (b:=none) r rfl
theorem kP{f:FE}(h:RE X E e f):RO X E (some e) (vw f):=zaP (zcz h) λO H Q ⟨Y,ρ,s,r,en,h⟩=>by
 refine yd (k:=fun ρ d s1=>match d with | .int i=>.ok (some i) s1 | _=>.no) r en h _ λv H1 Y1 s1 d r1 en1 dn stp h1=>?_;cases d with
 | int i=>cases yb dn;exact⟨i,rfl,h1.here (b:=some i) r1 rfl⟩ | _=>exact h1.elim
noncomputable def cutD(xs:List D)(lo hi:Option Int):List D:=(xs.drop (HT.sIx xs.length 0 lo)).take (HT.sIx xs.length xs.length hi-HT.sIx xs.length 0 lo)
theorem z2u{mg:Gm}{H:Hp}{Y:List Addr}{xs:List D}{vs:List V}(h:zq mg H Y xs vs)(lo hi:Option Int):zq mg H Y (cutD xs lo hi) (zaN vs lo hi):=by
 unfold cutD zaN;rw[h.length];exact (h.drop _).take _
noncomputable def dSl(x:D)(lo hi:Option Int)(s:Sto):R D:=match x with
 | .tup xs=>.ok (.tup (cutD xs lo hi)) s | x=>match listOf s x with | some xs=>.ok (.lst (cutD xs lo hi)) s | none=>.no
noncomputable def eSl(fe:FE)(fl fh:FO):FE:=fun ρ s=>(fe ρ s).bind λx s1=>(fl ρ s1).bind λlo s2=>(fh ρ s2).bind λhi s3=>dSl x lo hi s3
theorem z8r{α β:Type}{Dn:Hp->List Addr->α->β->Prop}{mg:Gm}{f:FO}{k:Ev->Option Int->Sto->R α}{O:L2.St}{H:Hp}{Q:β->Hp->Prop}{Y:List Addr}{ρ:Ev}{s:Sto}(r:Rep mg H Y s)(en:vF mg H Y ρ O) (h:okR mg E H Y Dn ((f ρ s).bind (k ρ)) Q)(K:Option Int->Hp->Prop) (hK:∀v H1 Y1 s1,Rep mg H1 Y1 s1->vF mg H1 Y1 ρ O->yw mg H Y H1 Y1 s1->okR mg E H1 Y1 Dn (k ρ v s1) Q->K v H1):tO mg E f O H K:= ⟨Y,ρ,s,r,en,(okR.bind (Dn:=oD) h).imp λv H1 ⟨Y1,s1,d,stp,dn,q⟩=>hK v H1 Y1 s1 stp.rep (en.mono stp) stp (by cases (show d=v from dn);exact q)⟩
theorem qh{lo hi:Option Expr}{p2:Pos}{fe:FE}{fl fh:FO}(he:RE X E e fe)(hl:RO X E lo fl)(hh:RO X E hi fh):RE X E (.Subscript e (.Slice lo hi none p2) pos) (eSl fe fl fh):= yh (z9P ((zec.or zcZ).or zbK.freeze) he hl hh) λO H Q ⟨Y,ρ,s,r,en,h⟩=>by
  refine yd (k:=fun ρ x s1=>(fl ρ s1).bind λlo s2=>(fh ρ s2).bind λhi s3=>dSl x lo hi s3) r en h _ λv H1 Y1 s1 d r1 en1 dn stp h1=>?_;refine z8r (k:=fun ρ lo s2=>(fh ρ s2).bind λhi s3=>dSl d lo hi s3) r1 en1 h1 _ λlo H2 Y2 s2 r2 en2 stp2 h2=>?_;refine z8r (k:=fun ρ hi s3=>dSl d lo hi s3) r2 en2 h2 _ λhi H3 Y3 s3 r3 en3 stp3 h3=>?_;have dn3:=(dn.mono stp2).mono stp3;cases d with
  | tup xs=>
   obtain⟨a,vs,rfl,q1,q2⟩:=qB (K:=X.K) dn3;have h3':okR (gm X) E H3 Y3 (Den (gm X)) (.ok (.tup (cutD xs lo hi)) s3) Q:=h3;by_cases hw:HT.sIx vs.length 0 lo=0/\HT.sIx vs.length vs.length hi=vs.length
   ·refine .inl (.inr ⟨a,vs,rfl,q1,hw,?_⟩);have e:cutD xs lo hi=xs:=by
     unfold cutD;rw[<- q2.length,hw.1,hw.2];simp[q2.length]
    rw[e]at h3';exact h3'.here r3 dn3
   ·exact .inl (.inl ⟨a,vs,rfl,q1,hw,kH r3 h3' (z2u q2 lo hi)⟩) | lst xs=>
   obtain⟨a,vs,rfl,q1,q2⟩:=zQ (d:=.lst xs) r3 rfl dn3;exact .inr ⟨a,vs,rfl,.inl q1,qM r3 h3 (z2u q2 lo hi)⟩ | loc l=>
   simp only[dSl]at h3;split at h3
   ·rename_i xs e;obtain⟨a,vs,rfl,q1,q2⟩:=zQ (d:=.loc l) r3 e dn3;exact .inr ⟨a,vs,rfl,.inl q1,qM r3 h3 (z2u q2 lo hi)⟩
   ·exact h3.elim | _=>exact h3.elim
end
abbrev Mir:=List D->Sto->R D
def zde(mg:Gm)(M:Mir):Sp:=λvs H Q E=>∃Y s ds,Rep mg H Y s/\zq mg H Y ds vs/\okR mg E H Y (Den mg) (M ds s) Q
def Has(P:Program)(w:World)(K:W.Frag)(mg:Str->Option Value)(base:Heap)(CX:CXT)(x:Str)(n:Nat)(M:Mir):Prop:= ∃f fd ps,z3h P w K mg base CX n f fd ps (zde ⟨mg,K⟩ M)/\Binds K fd ps []/\W.keepIn K (.ref f)=true/\mg x=some (.ref f)
section
variable {X:Cx}{E:XK}{e a b c:Expr}{es:List Expr}{pos:Pos}{CX:CXT}
theorem z8R {x:Str} {p:Pos} {n:Nat} {M:Mir} {f:FA} (F:Has X.prog X.w X.K X.mg X.base CX x n M) (hr:z1v n X.A) (hx:Passes CX X E) (hg:Gl X x) (ha:RA X E (e::es) f) (hdb:(x==("__debug__":Str))=false:=by decide) (he:starEach (e::es) X.env=(false,eval e X.env)::starEach es X.env:=by rfl) (hpl:(backTo pos (starEach es X.env)).any (·.1)=false:=by rfl):RE X E (.Call (.Name x p) (e::es) [] pos) (ze M f):=by
 obtain⟨fa,fd,ps,F,hb,hk,hm⟩:=F;refine yh (zbW F hr hg hm hk hb .nil hx ha hdb he hpl) λO H Q ⟨Y,ρ,s,r,en,h⟩=>?_;refine uY (k:=fun ρ xs s1=>M xs s1) r en h _ λvs H2 Y2 s2 ds r2 en2 dn2 stp2 h3=>?_;rw[List.append_nil];exact⟨Y2,s2,ds,r2,dn2,h3⟩
noncomputable def zZ(f g:FS):FS:=fun ρ s=>(f ρ s).bind λfl s1=>match fl with | .nx ρ'=>g ρ' s1 | fl=>.ok fl s1
noncomputable def wN:FS:=fun ρ s=>.ok (.nx ρ) s
variable {st:Stmt}{rs:List Stmt}
theorem zey {mg:Gm} {f g:FS} {D:z9S} {O:L2.St} {H:Hp} (h:tS mg E (zZ f g) D O H):zgQ (tS mg E f) (tS mg E g) D O H:=by
 obtain⟨Y,ρ,s,r,en,h⟩:=h;refine⟨Y,ρ,s,r,en,(okR.bind (Dn:=FlD mg) h).imp λfv H1 ⟨Y1,s1,fl,stp,dn,q⟩=>?_⟩;cases fl with
 | nx ρ'=> cases fv with
  | nx O'=>exact⟨Y1,ρ',s1,stp.rep,dn,q⟩ | _=>exact (show False from dn).elim
 | rt d=> cases fv with
  | rt v=>exact okR.here (b:=FlV.rt v) (Q:=z52 D) (s:=s1) (a:=Fl.rt d) q stp.rep dn | _=>exact (show False from dn).elim
 | bk ρ'=> cases fv with
  | bk v=>exact okR.here (b:=FlV.bk v) (Q:=z52 D) (s:=s1) (a:=Fl.bk ρ') q stp.rep dn | _=>exact (show False from dn).elim
 | ct ρ'=> cases fv with
  | ct v=>exact okR.here (b:=FlV.ct v) (Q:=z52 D) (s:=s1) (a:=Fl.ct ρ') q stp.rep dn | _=>exact (show False from dn).elim
theorem xj:RSs X E [] wN:=z8l zbO λD O H ⟨Y,ρ,s,r,en,h⟩=>okR.here (b:=FlV.nx O) h r en
theorem zj{f g:FS}(h1:RS X E st f)(h2:RSs X E rs g):RSs X E (st::rs) (zZ f g):=z8l (z9h h1 h2) λD O H h=>zey h
theorem zr{f:FS}(h1:RS X E st f):RSs X E [st] f:=zbN h1
noncomputable def fNo:FS:=λ_ _=>.no
theorem z4I:RS X E st fNo:=vy z9p λD O H ⟨_,_,_,_,_,h⟩=>h
noncomputable def z1z(f:FE):FS:=fun ρ s=>(f ρ s).bind λ_ s1=>.ok (.nx ρ) s1
theorem kU {f:FE} (he:RE X E e f) (hs:swapsWith e none pos.line X.env=pure false:=by rfl):RS X E (.Expr e pos) (z1z f):= vy (zcw he hs) λD O H ⟨Y,ρ,s,r,en,h⟩=>yd (k:=fun ρ _ s1=>R.ok (Fl.nx ρ) s1) r en h _ λv H1 Y1 s1 d r1 en1 dn stp h1=>okR.here (b:=FlV.nx O) (Q:=z52 D) h1 r1 en1
noncomputable def vv(f:FE):FS:=fun ρ s=>(f ρ s).bind λd s1=>.ok (.rt d) s1
theorem yr {f:FE} (he:RE X E e f):RS X E (.Return (some e) pos) (vv f):= vy (zdQ he) λD O H ⟨Y,ρ,s,r,en,h⟩=>yd (k:=fun ρ d s1=>R.ok (Fl.rt d) s1) r en h _ λv H1 Y1 s1 d r1 en1 dn stp h1=>okR.here (b:=FlV.rt v) (Q:=z52 D) h1 r1 dn
noncomputable def fIf(ft:FT)(f g:FS):FS:=fun ρ s=>(ft ρ s).bind λx s1=>if x=true then f ρ s1 else g ρ s1
theorem z0t{ft:FT}{f g:FS}{as bs:List Stmt}(hc:RT X E c ft)(ha:RSs X E as f)(hb:RSs X E bs g):RS X E (.If c as bs pos) (fIf ft f g):= vy (zgD hc ha hb) λD O H ⟨Y,ρ,s,r,en,h⟩=>z50 (k:=fun ρ x s1=>if x=true then f ρ s1 else g ρ s1) r en h _ λv H1 Y1 s1 r1 en1 stp h1=>by cases v with
  | true=>rw[_g rfl]at h1 ⊢;exact⟨Y1,ρ,s1,r1,en1,h1⟩ | false=>rw[_j (by decide)]at h1 ⊢;exact⟨Y1,ρ,s1,r1,en1,h1⟩
abbrev FG:=D->Ev->Sto->R Ev
def tG(mg:Gm)(E:XK)(f:FG):TG:=λv O H Q=>∃Y ρ s d,Rep mg H Y s/\vF mg H Y ρ O/\Den mg H Y d v/\okR mg E H Y (vF mg) (f d ρ s) (λO' H'=>Q O' H')
def RG(X:Cx)(E:XK)(tg:Expr)(f:FG):Prop:=PG X tg (tG (gm X) E f)
theorem zaC{tg:Expr}{t t':TG}(h:PG X tg t)(i:∀v O H Q,t' v O H Q->t v O H Q):PG X tg t':=λpins s O H v u Q I r q=>h pins s O H v u Q I r (i v O H Q q)
noncomputable def xK(i:Nat):FG:=λd ρ s=>.ok (ρ.set i (some d)) s
theorem uR(i:Nat){x:Str}(hN:X.N.Nodup)(hi:X.N[i]? = some x:=by rfl)(hx:Loc X.env.scope x:=by first | exact Or.inl rfl | exact Or.inr rfl)(hf:X.fn x=true\/X.env.scope.names.lookup x=some .local:=by first | exact .inl rfl | exact .inr rfl | assumption):RG X E (.Name x pos) (xK i):= zaC (yE hN hi hx hf) λv O H Q ⟨Y,ρ,s,d,r,en,dn,h⟩=>okR.here (b:=O.set i (some v)) h r (en.set dn i)
noncomputable def z13(i j:Nat):FG:=λd ρ s=>match d with | .tup [x,y]=>.ok ((ρ.set i (some x)).set j (some y)) s | _=>.no
theorem zdJ(i j:Nat){x y:Str}{px py:Pos}{kt:Nat}(hc:X.calm=true)(hN:X.N.Nodup)(hi:X.N[i]? = some x:=by rfl)(hj:X.N[j]? = some y:=by rfl)(hx:Loc X.env.scope x:=by first | exact Or.inl rfl | exact Or.inr rfl)(hy:Loc X.env.scope y:=by first | exact Or.inl rfl | exact Or.inr rfl) (hf:X.fn x=true\/X.env.scope.names.lookup x=some .local:=by first | exact .inl rfl | exact .inr rfl | assumption)(hf':X.fn y=true\/X.env.scope.names.lookup y=some .local:=by first | exact .inl rfl | exact .inr rfl | assumption): RG X E (.Tuple [.Name x px,.Name y py] kt pos) (z13 i j):= zaC (zbg hc (z0q (yE hN hi hx hf) (z0q (yE hN hj hy hf') z8A))) λv O H Q ⟨Y,ρ,s,d,r,en,dn,h⟩=>by
  unfold z13 at h;split at h
  ·rename_i d1 d2;obtain⟨p,vs,rfl,q1,q2⟩:=qB (K:=X.K) dn;obtain⟨v1,v2,rfl,e1,e2⟩:=z4B q2;exact⟨p,[v1,v2],rfl,q1,rfl,v1,[v2],rfl,v2,[],rfl,rfl,okR.here h r ((en.set e1 i).set e2 j)⟩
  ·exact h.elim
noncomputable def vP(i:Nat)(f:FE):FS:=fun ρ s=>(f ρ s).bind λd s1=>.ok (.nx (ρ.set i (some d))) s1
theorem wg (i:Nat) {x:Str} {pos':Pos} {f:FE} (hN:X.N.Nodup) (he:RE X E e f) (hi:X.N[i]? = some x:=by rfl) (hx:Loc X.env.scope x:=by first | exact Or.inl rfl | exact Or.inr rfl) (hs:swapsWith e (some (.Name x pos')) pos.line X.env=pure false:=by rfl) (hf:X.fn x=true\/X.env.scope.names.lookup x=some .local:=by first | exact .inl rfl | exact .inr rfl | assumption):RS X E (.Assign [.Name x pos'] e pos) (vP i f):= vy (zfd hN hi hx he hs hf) λD O H ⟨Y,ρ,s,r,en,h⟩=>yd (k:=fun ρ d s1=>R.ok (Fl.nx (ρ.set i (some d))) s1) r en h _ λv H1 Y1 s1 d r1 en1 dn stp h1=>okR.here (b:=FlV.nx (O.set i (some v))) (Q:=z52 D) h1 r1 (en1.set dn i)
noncomputable def zh9(f:FE)(g:FG):FS:=fun ρ s=>(f ρ s).bind λd s1=>(g d ρ s1).bind fun ρ' s2=>.ok (.nx ρ') s2
theorem zfF {tg:Expr} {f:FE} {g:FG} (he:RE X E e f) (hg:RG X E tg g) (hs:swapsWithSole [tg] e pos.line X.env=pure false:=by rfl) (hw:swappedStores [tg] e X.env=pure none:=by rfl) (h1:(assignEach [tg] X.env).map (·.2)=[assign tg X.env]:=by rfl):RS X E (.Assign [tg] e pos) (zh9 f g):= vy (zaZ he hg hs hw h1) λD O H ⟨Y,ρ,s,r,en,h⟩=>yd (k:=fun ρ d s1=>(g d ρ s1).bind fun ρ' s2=>R.ok (Fl.nx ρ') s2) r en h _ λv H1 Y1 s1 d r1 en1 dn stp h1=> ⟨Y1,ρ,s1,d,r1,en1,dn,(okR.bind (Dn:=vF (gm X)) h1).imp λO' H' ⟨Y2,s2,ρ',stp2,en2,q⟩=>okR.here (b:=FlV.nx O') (Q:=z52 D) q stp2.rep en2⟩
noncomputable def zfv(i j:Nat)(f:FA):FS:=fun ρ s=>(f ρ s).bind λds s1=>match ds with | [x,y]=>.ok (.nx ((ρ.set i (some x)).set j (some y))) s1 | _=>.no
theorem zf6 (i j:Nat) {x y:Str} {px py pt:Pos} {kt k2:Nat} {pt2:Pos} {f:FA} (hc:X.calm=true) (hN:X.N.Nodup) (ha:RA X E [a,b] f) (hi:X.N[i]? = some x:=by rfl) (hj:X.N[j]? = some y:=by rfl) (hij:i≠j:=by decide) (hx:X.env.scope.names.lookup x=some .local:=by rfl) (hy:X.env.scope.names.lookup y=some .local:=by rfl) (hw:swappedStores [.Tuple [.Name x px,.Name y py] kt pt] (.Tuple [a,b] k2 pt2) X.env=pure (some [x,y]):=by rfl) (hs:swapsWithSole [.Tuple [.Name x px,.Name y py] kt pt] (.Tuple [a,b] k2 pt2) pos.line X.env=pure false:=by rfl): RS X E (.Assign [.Tuple [.Name x px,.Name y py] kt pt] (.Tuple [a,b] k2 pt2) pos) (zfv i j f):= vy (zeq hc hN hi hj hij hx hy ha hw hs) λD O H ⟨Y,ρ,s,r,en,h⟩=>by
  refine uY (k:=fun ρ ds s1=>match ds with | [x,y]=>R.ok (Fl.nx ((ρ.set i (some x)).set j (some y))) s1 | _=>.no) r en h _ λvs H1 Y1 s1 ds r1 en1 dn stp h1=>?_;match ds,dn,h1 with
  | [],_,h1=>exact h1.elim | [_],_,h1=>exact h1.elim | _::_::_::_,_,h1=>exact h1.elim | [d1,d2],dn,h1=>
   obtain⟨v1,v2,rfl,e1,e2⟩:=z4B dn;exact⟨v1,v2,rfl,okR.here (b:=FlV.nx ((O.set i (some v1)).set j (some v2))) (Q:=z52 D) h1 r1 ((en1.set e1 i).set e2 j)⟩
noncomputable def z3W(fo fi fv:FE):FS:=fun ρ s=>(fv ρ s).bind λd s1=>(fo ρ s1).bind λo s2=>(fi ρ s2).bind λi s3=>match o,i with
 | .loc l,.int k=>match s3[l]? with
  | some xs=>match ixN xs.length k with
   | some j=>if d.flat=true then .ok (.nx ρ) (s3.set l (xs.set j d)) else .no | none=>.no
  | none=>.no
 | _,_=>.no
theorem z3r:∀{xs:List D}{d:D}{j:Nat},D.flat.flats xs=true->d.flat=true->D.flat.flats (xs.set j d)=true
 | [],_,_,_,_=>rfl | x::xs,d,0,h,hd=>by
  simp only[D.flat.flats,_p,List.set_cons_zero]at h ⊢;exact⟨hd,h.2⟩ | x::xs,d,j+1,h,hd=>by
  simp only[D.flat.flats,_p,List.set_cons_succ]at h ⊢;exact⟨h.1,z3r h.2 hd⟩
theorem xp:∀{xs ys:List D},D.flat.flats xs=true->D.flat.flats ys=true->D.flat.flats (xs++ys)=true
 | [],_,_,h=>h | x::xs,ys,h,h'=>by
  simp only[D.flat.flats,_p,_X]at h ⊢;exact⟨h.1,xp h.2 h'⟩
theorem z5M {o i:Expr} {p1:Pos} {fo fi fv:FE} (hv:RE X E e fv) (ho:RE X E o fo) (hi:RE X E i fi) (ha:∀v,assign (.Subscript o i p1) X.env v=(do
   let ov <- holding [v] (eval o X.env) let iv <- holding [v,ov] (eval i X.env)
   standAt p1
   holding [v,ov,iv] (setItem ov iv v)
   release [v,ov,iv] []):=by intro _;rfl) (hs:swapsWithSole [.Subscript o i p1] e pos.line X.env=pure false:=by rfl) (hw:swappedStores [.Subscript o i p1] e X.env=pure none:=by rfl) (h1:(assignEach [.Subscript o i p1] X.env).map (·.2)=[assign (.Subscript o i p1) X.env]:=by rfl):RS X E (.Assign [.Subscript o i p1] e pos) (z3W fo fi fv):= vy (zaZ hv (zdm ho hi set_list ha) hs hw h1) λD O H ⟨Y,ρ,s,r,en,h⟩=>by
  unfold z3W at h;refine⟨Y,ρ,s,r,en,(okR.bind (Dn:=Den (gm X)) h).imp λv H1 ⟨Y1,s1,d,stp,dn,h1⟩=>?_⟩;refine⟨Y1,ρ,s1,stp.rep,en.mono stp,(okR.bind (Dn:=Den (gm X)) h1).imp λov H2 ⟨Y2,s2,od,stp2,dn2,h2⟩=>?_⟩;refine⟨Y2,ρ,s2,stp2.rep,(en.mono stp).mono stp2,(okR.bind (Dn:=Den (gm X)) h2).imp λiv H3 ⟨Y3,s3,id,stp3,dn3,h3⟩=>?_⟩;have en3:=((en.mono stp).mono stp2).mono stp3;have dv:=(dn.mono stp2).mono stp3;have dov:=dn2.mono stp3;cases od with
  | loc l=> cases id with
   | int k=>
    simp only at h3;split at h3
    ·rename_i xs ex;split at h3
     ·rename_i j ej;split at h3
      ·rename_i hf;cases yb dn3;simp only[Den]at dov;obtain⟨a,rfl,e1,ka⟩:=dov;obtain⟨vs,q1,q2⟩:=stp3.rep.at_ ex e1 ka;have stp4:=yw.put (l:=l) (xs:=xs.set j d) stp3.rep e1 ka (q2.set j dv) (z3r (stp3.rep.flat xs (_d ex)) hf);exact⟨a,vs,k,j,rfl,rfl,q1,by rw[q2.length];exact ej,h3 (.nx O) _ _ stp4 (en3.mono stp4)⟩
      ·exact h3.elim
     ·exact h3.elim
    ·exact h3.elim | _=>exact h3.elim
  | _=>exact h3.elim
end
end Dd
namespace L2
theorem zeO{X:Cx}{tg l:Expr}{tl:TE}(hl:PE X l tl):PI X tg l (λO H R=>tl O H λx H1=>∃a,x=.ref a/\(((∃xs,SqL X.K H1 a xs)/\R (Itl X.K a) H1)\/((∃xs,SqT X.K H1 a xs)/\R (Itt X.K a) H1))):=by
 intro pins s O H R I h;refine thn (hl pins s O H _ I h) λv s1 ⟨x,H1,I1,r1,q1⟩=>?_;obtain⟨a,e,q⟩:=q1;subst e;cases r1;rcases q with⟨⟨xs,hq⟩,q⟩ | ⟨⟨xs,hq⟩,q⟩
 ·obtain⟨its,rv,p,hz⟩:=I1.list hq;refine wpAny_pyIter_list p.isList ?_;refine⟨s1.heap.objs.size,[s1.heap.objs.size],_,_,H1,rfl,I1.kept (t':=s1.toks) λb o e=>_e _ e,z8c a _,⟨_,_t _ rfl,rfl,rfl⟩,λb hb=>?_,q⟩;have e:b=s1.heap.objs.size:=by simpa using hb
  subst e;exact I1.fpOk (_f _) (I1.hok.fresh (_f _))
 ·obtain⟨its,rv,p,hz⟩:=I1.tuple hq;refine wpAny_pyIter_tuple (show s1.heap.IsTuple a its.toArray from p) ?_;refine⟨s1.heap.objs.size,[s1.heap.objs.size],_,_,H1,rfl,I1.kept (t':=s1.toks) λb o e=>_e _ e,z6O a _,⟨_,_t _ rfl,rfl,rfl⟩,λb hb=>?_,q⟩;have e:b=s1.heap.objs.size:=by simpa using hb
  subst e;exact I1.fpOk (_f _) (I1.hok.fresh (_f _))
theorem jn.freeze{X:Cx}{pins:List (Addr×Obj)}{O:L2.St}{C:Addr}{Q:VK}{acc:Value}{s':Shared}(h:jn X pins O C (z5D Q) acc s'):jn X pins O C Q acc s':=by
 obtain⟨v,Hf,I,r,⟨a,xs,rfl,ha,q⟩,hm,f⟩:=h;obtain⟨its,n,rv,e,_⟩:=I.lst ha;refine⟨_,_,I.freeze ha e (by intro _ z;cases z) (by intro _ _ z;cases z) (by intro _ z;cases z) (by intro _ z;cases z),r,q _,hm,?_,f.2⟩;rw[zg (λz=>by have:=f.1;rw[z,ha]at this;cases this)];exact f.1
theorem z4K {X:Cx} {tg iter elt:Expr} {ifs:List Expr} {scope:Scope} {pos spos py:Pos} {wi:TI} {g:TG} {ti:TT} {te:TE} {i:Nat} {y:Str} (N':List Str) (mp:List (Option Nat)) (hN:X.N.Nodup) (hy:X.N[i]? = some y) (hyl:Loc X.env.scope y) (hc:X.calm=true) (hi:PI X tg iter wi) (hg:∀ex s H,PG (zp X N' scope ex s H) tg g) (ht:∀ex s H,z5m (zp X N' scope ex s H) ifs ti) (he:∀ex s H,PE (zp X N' scope ex s H) elt te) (hkd:scope.kind=.function) (hnm:∀y∈scope.names,scope.names.lookup y.1=some y.2) (hfr:∀y∈scope.names,y.2=.free->X.env.kindOf y.1=some .cell\/X.env.kindOf y.1=some .free) (hmp:z0s X.N scope.names N' mp=true) (hs:∀x,foldedSetIterable iter X.env x=pure x:=by intro _;rfl) (hsw:swapsWith (.ListComp elt [⟨tg,iter,ifs,0⟩] scope pos) (some (.Name y py)) spos.line X.env=pure true:=by rfl) (hf:X.fn y=true\/X.env.scope.names.lookup y=some .local:=by first | exact .inl rfl | exact .inr rfl | assumption): PS X (.Assign [.Name y py] (.ListComp elt [⟨tg,iter,ifs,0⟩] scope pos) spos) (λD O H=>zaA wi mp g ti te O H (z5D λv H'=>D.nx (O.set i (some v)) H')):=by
 intro pins s O H D I h;rw[_ci _ _ _ _ hsw];refine _a (_aM (_a ?_));show wpAny _ X.A (do let _ <- comprehension (.ListComp elt [⟨tg,iter,ifs,0⟩] scope pos) scope X.env _ (newList []) false (eval iter X.env) (some (assign (.Name y py) X.env))) _ _ s;refine _a (_z (_bm (use:=some (assign (.Name y py) X.env)) (Q:=λ_ s'=>SP X pins D .next s') rfl hs (wV λy hy hf=>I.ok.has _ (hfr y hy hf)) hkd (λy hy hl=>by rw[hnm y hy,hl]) (thn (hi pins s O H _ I h) λxv s₁ h₁=>thn h₁ λitv s₂ h₂=>?_)) (λ_ s' hq=>_c (_c hq)) λ_ _ e=>e);obtain⟨it,fp,tn,J,H2,e,I2,T,st2,f2,W,w0,turn⟩:=h₂;subst e;refine jZ (N':=N') (mp:=mp) (O:=O) (pins:=pins) (Q:=z5D λv H'=>D.nx (O.set i (some v)) H') (RR:=λacc C=>compPost (model X.prog X.w) X.A X.xe (some (assign (.Name y py) X.env)) (λ_ s'=>SP X pins D .next s') acc C) hc hg ht he hkd hnm hfr hmp I2 T st2 f2 W w0 turn ?_;intro acc C s' hd;obtain⟨v,Hf,I3,r,q,⟨m,hm⟩,f⟩:=hd.freeze;refine _b1 (jE I3 hN hy hyl r (λs'' I4 ⟨a,sb,ha⟩=>?_) hf);have hC:C≠a:=by
  rcases ha with z | z;·rw[z];exact f.2.1
  ·exact _a1 (f.2.2.2.2.1 y a z)
 exact⟨m,hm.sameBut sb hC,λh' sb'=>⟨_,Hf,uF I4 f sb',q⟩⟩
end L2
namespace Dd
open L2
abbrev ItD:=List D×List (Nat×List D)
def okG(g:List (Nat×List D))(all:List D)(s:Sto):Prop:=∀p∈g,s[p.1]? = some p.2
def z97(mg:Gm)(H0:Hp)(Y0:List Addr)(a:ItD)(J:It):Prop:=∀H Y s,yw mg H0 Y0 H Y s->okG a.2 a.1 s->∀i:Nat, (∀d,a.1[i]? = some d->J.go i H/\∀x H',J.yld i H x H'->∃Y',yw mg H Y H' Y' s/\Den mg H' Y' d x)/\(a.1.length<=i->J.stop i H)
abbrev FI:=Ev->Sto->R ItD
def tI(mg:Gm)(E:XK)(f:FI):TI:=λO H Rr=>∃Y ρ s,Rep mg H Y s/\vF mg H Y ρ O/\okR mg E H Y (z97 mg) (f ρ s) Rr
def RI(X:Cx)(E:XK)(tg it:Expr)(f:FI):Prop:=PI X tg it (tI (gm X) E f)
section
variable {X:Cx}{E:XK}{e a b c tg:Expr}{es:List Expr}{pos:Pos}{CX:CXT}
theorem z3p{it:Expr}{t t':TI}(h:PI X tg it t)(i:∀O H Q,t' O H Q->t O H Q):PI X tg it t':=λpins s O H Q I q=>h pins s O H Q I (i O H Q q)
noncomputable def xg(f:FE):FI:=fun ρ s=>(f ρ s).bind λd s1=>match d with
 | .tup xs=>.ok (xs,[]) s1 | .lst xs=>.ok (xs,[]) s1 | .loc l=>match s1[l]? with | some xs=>.ok (xs,[(l,xs)]) s1 | none=>.no
 | _=>.no
theorem qK{f:FE}(h:RE X E e f):RI X E tg e (xg f):=z3p (zeO h) λO H Q ⟨Y,ρ,s,r,en,h⟩=>by
 unfold xg at h;refine⟨Y,ρ,s,r,en,(okR.bind (Dn:=Den (gm X)) h).imp λv H1 ⟨Y1,s1,d,stp,dn,h1⟩=>?_⟩;have lst:∀(a:Addr)(xs:List D)(g:List (Nat×List D)),(∀H2 Y2 s2,yw (gm X) H1 Y1 H2 Y2 s2->okG g xs s2->∃ws,SqL X.K H2 a ws/\zq (gm X) H2 Y2 xs ws)->z97 (gm X) H1 Y1 (xs,g) (Itl X.K a):=λa xs g hq H2 Y2 s2 stp2 hg i=>by
  obtain⟨ws,q1,q2⟩:=hq H2 Y2 s2 stp2 hg;refine⟨λd hd=>?_,λhl=>⟨ws,q1,by rw[q2.length];exact hl⟩⟩;obtain⟨v,e1,e2⟩:=q2.get hd;refine⟨⟨ws,v,q1,e1⟩,λx H' ⟨e3,y⟩=>?_⟩;subst e3;have e4:=y ws q1;rw[e1]at e4;cases e4;exact⟨Y2,.refl stp2.rep,e2⟩
 have tup:∀(a:Addr)(xs:List D),(∀H2 Y2 s2,yw (gm X) H1 Y1 H2 Y2 s2->∃ws,SqT X.K H2 a ws/\zq (gm X) H2 Y2 xs ws)->z97 (gm X) H1 Y1 (xs,[]) (Itt X.K a):=λa xs hq H2 Y2 s2 stp2 hg i=>by
  obtain⟨ws,q1,q2⟩:=hq H2 Y2 s2 stp2;refine⟨λd hd=>?_,λhl=>⟨ws,q1,by rw[q2.length];exact hl⟩⟩;obtain⟨v,e1,e2⟩:=q2.get hd;refine⟨⟨ws,v,q1,e1⟩,λx H' ⟨e3,y⟩=>?_⟩;subst e3;have e4:=y ws q1;rw[e1]at e4;cases e4;exact⟨Y2,.refl stp2.rep,e2⟩
 cases d with
 | tup xs=>
  have h1':okR (gm X) E H1 Y1 (z97 (gm X)) (.ok (xs,[]) s1) Q:=h1;obtain⟨a,vs,rfl,q1,q2⟩:=qB (K:=X.K) dn;refine⟨a,rfl,.inr ⟨⟨vs,q1⟩,h1'.here stp.rep (tup a xs λH2 Y2 s2 stp2=>?_)⟩⟩;have dn2:=dn.mono stp2;obtain⟨a',ws,e,q3,q4⟩:=qB (K:=X.K) dn2;cases e;exact⟨ws,q3,q4⟩ | lst xs=>
  have h1':okR (gm X) E H1 Y1 (z97 (gm X)) (.ok (xs,[]) s1) Q:=h1;obtain⟨a,vs,rfl,q1,q2⟩:=zQ (d:=.lst xs) stp.rep rfl dn;refine⟨a,rfl,.inl ⟨⟨vs,.inl q1⟩,h1'.here stp.rep (lst a xs [] λH2 Y2 s2 stp2 _=>?_)⟩⟩;obtain⟨a',ws,e,q3,q4⟩:=zQ (d:=.lst xs) stp2.rep rfl (dn.mono stp2);cases e;exact⟨ws,.inl q3,q4⟩ | loc l=>
  simp only at h1;split at h1
  ·rename_i xs ex;obtain⟨a,vs,rfl,q1,q2⟩:=zQ (d:=.loc l) stp.rep ex dn;refine⟨a,rfl,.inl ⟨⟨vs,.inl q1⟩,h1.here stp.rep (lst a xs [(l,xs)] λH2 Y2 s2 stp2 hg=>?_)⟩⟩;obtain⟨a',ws,e,q3,q4⟩:=zQ (d:=.loc l) stp2.rep (hg (l,xs) (by simp)) (dn.mono stp2);cases e;exact⟨ws,.inl q3,q4⟩
  ·exact h1.elim | _=>exact h1.elim
end
section
variable {X:Cx}{E:XK}{e a b c tg:Expr}{es:List Expr}{pos:Pos}{CX:CXT}
noncomputable def vg(n:Nat):List D:=(List.range n).map λ(k:Nat)=>D.int ((k:Nat):Int)
noncomputable def z2l(f:FA):FI:=fun ρ s=>(f ρ s).bind λds s1=>match ds with
 | [.int j]=>if -(2 ^ 62)<=j/\j<2 ^ 62 then .ok (vg j.toNat,[]) s1 else .no | _=>.no
theorem uv{p:Pos}{f:FA}(hg:Gl X "range")(hm:X.mg "range"=none)(ha:RA X E [a] f)(hs:starEach [a] X.env=[(false,eval a X.env)]:=by rfl):RI X E tg (.Call (.Name "range" p) [a] [] pos) (z2l f):= z3p (z8W hg hm ha hs) λO H Q ⟨Y,ρ,s,r,en,h⟩=>by
  unfold z2l at h;refine⟨Y,ρ,s,r,en,(okR.bind (Dn:=zq (gm X)) h).imp λvs H1 ⟨Y1,s1,ds,stp,dn,h1⟩=>?_⟩;split at h1
  ·rename_i j;split at h1
   ·rename_i hj;obtain⟨v,rfl,d1⟩:=z0F dn;cases yb d1;refine⟨j,rfl,hj.1,hj.2,h1.here stp.rep λH2 Y2 s2 stp2 _ i=>⟨λd hd=>?_,λhl=>?_⟩⟩
    ·have hi:i<j.toNat:=by
      have:=(_b.mp hd).1;simpa[vg] using this
     refine⟨hi,λx H' ⟨e1,e2⟩=>?_⟩;subst e1 e2;refine⟨Y2,.refl stp2.rep,?_⟩;have e3:d=D.int i:=by
      simp only[vg,_R,_cJ hi,_a6,_D]at hd;exact hd.symm
     rw[e3];simp[Den]
    ·have:(vg j.toNat).length=j.toNat:=by simp[vg]
     show j.toNat<=i;rw[<- this];exact hl
   ·exact h1.elim
  ·exact h1.elim
open Classical in
noncomputable def wK(g:List (Nat×List D))(all:List D)(body:D->Ev->Sto->R Fl):List D->Ev->Sto->R Fl
 | [],ρ,s=>if okG g all s then .ok (.nx ρ) s else .no | x::xs,ρ,s=>if okG g all s then (body x ρ s).bind λfl s1=>match fl with
   | .nx ρ'=>wK g all body xs ρ' s1 | .ct ρ'=>wK g all body xs ρ' s1 | .bk ρ'=>.ok (.nx ρ') s1 | .rt d=>.ok (.rt d) s1 else .no
def z4S(fi:FI)(fg:FG)(fb:FS):FS:=fun ρ s=>(fi ρ s).bind λit s1=>wK it.2 it.1 (λd ρ s=>(fg d ρ s).bind fun ρ' s'=>fb ρ' s') it.1 ρ s1
theorem z09 {iter:Expr} {body:List Stmt} {fi:FI} {fg:FG} {fb:FS} (hp:PassesOwn (model X.prog X.w) X.A X.env X.xe) (hc:X.calm=true) (hi:RI X E tg iter fi) (hg:RG X E tg fg) (hb:RSs X E body fb) (hs:∀x,foldedSetIterable iter X.env x=pure x:=by intro _;rfl):RS X E (.For tg iter body [] pos) (z4S fi fg fb):= vy (zet hp hc hi hg hb hs) λD O H ⟨Y,ρ,s,r,en,h⟩=>by
  unfold z4S at h;refine⟨Y,ρ,s,r,en,(okR.bind (Dn:=z97 (gm X)) h).imp λJ H1 ⟨Y1,s1,it,stp,ok,h1⟩=>?_⟩;obtain⟨items,g⟩:=it;simp only at h1;refine⟨λi m O H=>∃Y ρ s,yw (gm X) H1 Y1 H Y s/\vF (gm X) H Y ρ O/\m=items.length-i/\i<=items.length/\ okR (gm X) E H Y (FlD (gm X)) (wK g items (λd ρ s=>(fg d ρ s).bind fun ρ' s'=>fb ρ' s') (items.drop i) ρ s) (z52 D), ⟨items.length,Y1,ρ,s1,.refl stp.rep,en.mono stp,by simp,_aZ _,by simpa using h1⟩,?_⟩;rintro i m O H ⟨Y2,ρ2,s2,stp2,en2,rfl,hil,h2⟩;by_cases hlt:i<items.length
  ·right;rw[_aT hlt,wK]at h2;split at h2
   ·rename_i hG;obtain⟨go,yl⟩:=((ok H Y2 s2 stp2 hG i).1 items[i] (_n hlt));refine⟨go,λO' H'=>∃Y ρ s,yw (gm X) H1 Y1 H' Y s/\vF (gm X) H' Y ρ O'/\okR (gm X) E H' Y (FlD (gm X)) (wK g items (λd ρ s=>(fg d ρ s).bind fun ρ' s'=>fb ρ' s') (items.drop (i+1)) ρ s) (z52 D), λO' H' ⟨Y3,ρ3,s3,q1,q2,q3⟩=>⟨items.length-(i+1),by omega,Y3,ρ3,s3,q1,q2,rfl,hlt,q3⟩,λx H' y=>?_⟩;obtain⟨Y3,stp3,dn3⟩:=yl x H' y;have h3:=okR.rebase h2 stp3;have h4:=okR.bind (Dn:=FlD (gm X)) h3;refine⟨Y3,ρ2,s2,items[i],stp3.rep,en2.mono stp3,dn3,(okR.bind (Dn:=vF (gm X)) h4).imp λO5 H5 ⟨Y5,s5,ρ5,stp5,en5,h5⟩=>?_⟩;refine⟨Y5,ρ5,s5,stp5.rep,en5,h5.imp λfv H6 ⟨Y6,s6,fl,stp6,dn6,q6⟩=>?_⟩;have all6:yw (gm X) H1 Y1 H6 Y6 s6:=(stp2.trans stp3).trans stp6;cases fl with
    | nx ρ'=> cases fv with
     | nx O'=>exact⟨Y6,ρ',s6,all6,dn6,q6⟩ | _=>exact (show False from dn6).elim
    | ct ρ'=> cases fv with
     | ct O'=>exact⟨Y6,ρ',s6,all6,dn6,q6⟩ | _=>exact (show False from dn6).elim
    | bk ρ'=> cases fv with
     | bk O'=>exact okR.here (b:=FlV.nx O') (Q:=z52 D) (a:=Fl.nx ρ') (s:=s6) q6 stp6.rep dn6 | _=>exact (show False from dn6).elim
    | rt d=> cases fv with
     | rt v=>exact okR.here (b:=FlV.rt v) (Q:=z52 D) (a:=Fl.rt d) (s:=s6) q6 stp6.rep dn6 | _=>exact (show False from dn6).elim
   ·exact h2.elim
  ·left;have e:i=items.length:=by omega
   subst e;rw[_cl,wK]at h2;split at h2
   ·rename_i hG;exact⟨(ok H Y2 s2 stp2 hG _).2 (_f _),okR.here (b:=FlV.nx O) (Q:=z52 D) h2 stp2.rep en2⟩
   ·exact h2.elim
end
end Dd
namespace Zz
def Sit(b:Bool)(h:Heap)(it l:Addr)(k:Nat):Prop:=match b with
 | true=>h.IsListIter it l k | false=>h.IsTupleIter it l k
def Sco(b:Bool)(h:Heap)(l:Addr)(xs:Array Value):Prop:=match b with
 | true=>h.IsList l xs | false=>h.IsTuple l xs
theorem Sit.to{b:Bool}{h h':Heap}{it l:Addr}{k:Nat}(x:Sit b h it l k)(e:∀o,h.get? it=some o->h'.get? it=some o):Sit b h' it l k:=by cases b with
 | true=>obtain⟨o,ho,r⟩:=x;exact⟨o,e _ ho,r⟩ | false=>obtain⟨o,ho,r⟩:=x;exact⟨o,e _ ho,r⟩
theorem Sco.to{b:Bool}{h h':Heap}{l:Addr}{xs:Array Value}(x:Sco b h l xs)(e:∀o,h.get? l=some o->h'.get? l=some o):Sco b h' l xs:=by cases b with
 | true=>obtain⟨o,ho,r⟩:=x;exact⟨o,e _ ho,r⟩ | false=>obtain⟨o,ho,r⟩:=x;exact⟨o,e _ ho,r⟩
theorem Sit.lt{b:Bool}{h:Heap}{it l:Addr}{k:Nat}(x:Sit b h it l k):it<h.objs.size:=by cases b with
 | true=>obtain⟨o,ho,r⟩:=x;exact _r ho | false=>obtain⟨o,ho,r⟩:=x;exact _r ho
theorem Sit.ob{b:Bool}{h:Heap}{it l:Addr}{k:Nat}(x:Sit b h it l k):∃o,h.get? it=some o/\∀v,o.data≠.cell v:=by cases b with
 | true=>obtain⟨o,ho,_,d⟩:=x;exact⟨o,ho,λv z=>by rw[d]at z;cases z⟩ | false=>obtain⟨o,ho,_,d⟩:=x;exact⟨o,ho,λv z=>by rw[d]at z;cases z⟩
section
variable {P:Program}{w:World}{A:Around}{E:Value->Shared->Prop}{s:Shared}
theorem zdE{it l:Addr}{k:Nat}{xs:Array Value}{x:Value}{R:Value->Shared->Prop}(h1:s.heap.IsTupleIter it l k)(h2:s.heap.IsTuple l xs)(e:xs[k]? = some x) (q:∀h',h'.IsTupleIter it l (k+1)->Heap.SameBut it s.heap h'->R x {s with heap:=h'}):wpAny (model P w) A (Builtin.SmallTypes.nextOf (.ref it)) R E s:=by
 obtain⟨o,ho,hc,hd⟩:=id h1;obtain⟨ol,hol,_,nl,hdl⟩:=h2;unfold Builtin.SmallTypes.nextOf;refine _a (_ac (name:=Str.ofString "__next__") h1.typeIs _bd (_af _bd h1.typeIs F.entry_tuple_iterator_next ?_ (F.args_tuple_iterator_next_1 _)));show wpAny _ _ (field (.ref it) 0 >>= _) _ _ s;refine _a (_am ho hd (x:=.ref l) rfl ?_);show wpAny _ _ (if (Value.ref l==Value.none)=true then _ else _) _ _ s;rw[_j (show ¬ ((Value.ref l==Value.none)=true) from _bb)];show wpAny _ _ (field (.ref it) 1 >>= _) _ _ s;refine _a (_am ho hd (x:=.int k 0) rfl ?_);show wpAny _ _ (seqItems? (.ref l) >>= _) _ _ s;refine _a (_aF hol hdl ?_);simp only[_b5,e];refine _a (_c0 ho hd (by simp) (_c ⟨x,rfl,_c (q _ ?_ (_bo ..))⟩));exact⟨_,_bh _ ho (Obj.isFreed_of_fields (Obj.data_mapFields hd _)),(Obj.cls_mapFields ..).trans hc,by rw[Obj.data_mapFields hd];simp[rawInt]⟩
theorem z6k {it l:Addr} {k:Nat} {xs:Array Value} {R:Value->Shared->Prop} (hh:A.handled=none) (h1:s.heap.IsTupleIter it l k) (h2:s.heap.IsTuple l xs) (e:xs[k]? = none) (q:∀h' e,Heap.ExtBut it s.heap h'->(∃o,h'.get? e=some o/\o.cls=.type "StopIteration")->E (.ref e) {s with heap:=h'}):wpAny (model P w) A (Builtin.SmallTypes.nextOf (.ref it)) R E s:=by
 obtain⟨o,ho,hc,hd⟩:=id h1;obtain⟨ol,hol,_,nl,hdl⟩:=h2;unfold Builtin.SmallTypes.nextOf;refine _a (_ac (name:=Str.ofString "__next__") h1.typeIs _bd (_af _bd h1.typeIs F.entry_tuple_iterator_next ?_ (F.args_tuple_iterator_next_1 _)));show wpAny _ _ (field (.ref it) 0 >>= _) _ _ s;refine _a (_am ho hd (x:=.ref l) rfl ?_);show wpAny _ _ (if (Value.ref l==Value.none)=true then _ else _) _ _ s;rw[_j (show ¬ ((Value.ref l==Value.none)=true) from _bb)];show wpAny _ _ (field (.ref it) 1 >>= _) _ _ s;refine _a (_am ho hd (x:=.int k 0) rfl ?_);show wpAny _ _ (seqItems? (.ref l) >>= _) _ _ s;refine _a (_aF hol hdl ?_);simp only[_b5,e];refine _a (_at (_a (_c0 ho hd (by simp) ?_)));show wpAny _ _ (newExc (.type "StopIteration") [] >>= _) _ _ _;refine _a ?_;simp only[newExc,newTuple];refine _a (_L ?_ (by size_fits));refine _a (m:=firstArgMember _ _) (_cs (a:=Value.none) (by first | rfl | (simp only[firstArgMember];rfl)) ?_);refine _L ?_ (by size_fits);simp only[raiseNew];refine _a (wpAny_handled ?_);first | rw[show A.in1.handled=none from hh] | rw[hh]
 refine _a (_c (wpAny_throw ?_));exact q _ _ (((_bo ..).extBut.push _).push _) ⟨_,_t _ rfl,rfl⟩
theorem nx{b:Bool}{it l:Addr}{k:Nat}{xs:Array Value}{x:Value}{R:Value->Shared->Prop}(h1:Sit b s.heap it l k)(h2:Sco b s.heap l xs)(e:xs[k]? = some x) (q:∀h',Sit b h' it l (k+1)->Heap.SameBut it s.heap h'->R x {s with heap:=h'}):wpAny (model P w) A (Builtin.SmallTypes.nextOf (.ref it)) R E s:=by cases b with
 | true=>exact wpAny_nextOf_list_item h1 h2 e q | false=>exact zdE h1 h2 e q
theorem zaO {b:Bool} {it l:Addr} {k:Nat} {xs:Array Value} {R:Value->Shared->Prop} (hh:A.handled=none) (h1:Sit b s.heap it l k) (h2:Sco b s.heap l xs) (e:xs[k]? = none) (q:∀h' e,Heap.ExtBut it s.heap h'->(∃o,h'.get? e=some o/\o.cls=.type "StopIteration")->E (.ref e) {s with heap:=h'}):wpAny (model P w) A (Builtin.SmallTypes.nextOf (.ref it)) R E s:=by cases b with
 | true=>exact wpAny_nextOf_list_end hh h1 h2 e q | false=>exact z6k hh h1 h2 e q
theorem zC{a:Addr}{h h':Heap}(hs:Heap.SameBut a h h'){b:Addr}{o:Obj}(n:b≠a)(e:h.get? b=some o):h'.get? b=some o:=hs.extBut _ _ n e
theorem zbR {z TI TO i1 i2 l1 l2:Addr} {b1 b2:Bool} {k:Nat} {xs ys:Array Value} {x y a b:Value} {Q:Option Value->Shared->Prop} (D:ZipApart z TI TO i1 i2 l1 l2) (hz:IsZip s.heap z TI TO .none) (hTI:IsPair s.heap TI (.ref i1) (.ref i2)) (hTO:IsPair s.heap TO a b) (h1:Sit b1 s.heap i1 l1 k) (h2:Sit b2 s.heap i2 l2 k) (c1:Sco b1 s.heap l1 xs) (c2:Sco b2 s.heap l2 ys) (ex:xs[k]? = some x) (ey:ys[k]? = some y) (q:∀h',IsZip h' z TI TO (rawInt s.heap.objs.size)->IsPair h' TO x y->Sit b1 h' i1 l1 (k+1)->Sit b2 h' i2 l2 (k+1)->IsPair h' s.heap.objs.size x y->h'.objs.size=s.heap.objs.size+1-> (∀c o,c≠z->c≠TO->c≠i1->c≠i2->s.heap.get? c=some o->h'.get? c=some o)->Q (some (.ref s.heap.objs.size)) {s with heap:=h'}):wpAny (model P w) A (pyNext (.ref z)) Q E s:=by
 have hT:s.TypeIs (.ref z) "zip":=⟨_,hz,rfl⟩;unfold pyNext;refine _a (_cq (_ac (name:=Str.ofString "__next__") hT _cA (_af _cA hT F.entry_zip_next (Q:=λv s'=>wpAny (model P w) A (pure (some v)) Q E s') ?_ (F.args_zip_next_1 _))));show wpAny _ _ (field (.ref z) 2 >>= _) _ _ _;refine _a (_am hz rfl (x:=.bool false) rfl ?_);show wpAny _ _ (field (.ref z) 3 >>= _) _ _ _;refine _a (_am hz rfl (x:=.ref TI) rfl ?_);refine _a (_aF hTI rfl ?_);show wpAny _ _ (Builtin.SmallTypes.ownedTupleIsFree (.ref z) >>= _) _ _ _;refine _a ?_;unfold Builtin.SmallTypes.ownedTupleIsFree;refine _a (_am hz rfl (x:=.none) rfl (_c ?_));simp only[_N];refine _a (_at ?_);refine _a (_am hz rfl (x:=.ref TO) rfl ?_);refine _a (_be hz (by simp) λg1 z1 s1=>?_);replace z1:IsZip g1 z TI TO .ellipsis:=z1;refine _a ?_;simp only[_dq,List.zipIdx_nil,List.forIn_cons,List.forIn_nil];refine _a (_a (_di ?_));show wpAny _ _ (Builtin.SmallTypes.nextOf (.ref i1) >>= _) _ _ _;refine _a (nx (h1.to λo e=>zC s1 D.i1z e) (c1.to λo e=>zC s1 D.l1z e) ex λg2 t2 s2=>_c ?_);have o2:IsPair g2 TO a b:=zC s2 D.TOi1 (zC s1 D.TOz hTO);refine _a (_aF o2 rfl ?_);refine _a (_ct o2 λg3 o3 s3=>?_);replace o3:IsPair g3 TO x b:=o3;refine _a (_b0 (_c ?_));refine _a (_a (_di ?_));show wpAny _ _ (Builtin.SmallTypes.nextOf (.ref i2) >>= _) _ _ _;refine _a (nx (h2.to λo e=>zC s3 D.TOi2.symm (zC s2 D.i12.symm (zC s1 D.i2z e))) (c2.to λo e=>zC s3 D.l2TO (zC s2 D.l2i1 (zC s1 D.l2z e))) ey λg4 t4 s4=>_c ?_);have o4:IsPair g4 TO x b:=zC s4 D.TOi2 o3;refine _a (_aF o4 rfl ?_);refine _a (_ct o4 λg5 o5 s5=>?_);replace o5:IsPair g5 TO x y:=o5;refine _a (_b0 (_c (_c ?_)));refine _a (_aF o5 rfl ?_);refine _a (wpAny_newTuple ?_);have sz:g5.objs.size=s.heap.objs.size:=by rw[s5.1,s4.1,s3.1,s2.1,s1.1]
 have z5:IsZip g5 z TI TO .ellipsis:=zC s5 D.TOz.symm (zC s4 D.i2z.symm (zC s3 D.TOz.symm (zC s2 D.i1z.symm z1)));have k5:∀c o,c≠z->c≠TO->c≠i1->c≠i2->s.heap.get? c=some o->g5.get? c=some o:=λc o n1 n2 n3 n4 e=>zC s5 n2 (zC s4 n4 (zC s3 n2 (zC s2 n3 (zC s1 n1 e))));have t5:Sit b1 g5 i1 l1 (k+1):=t2.to λo e=>zC s5 D.TOi1.symm (zC s4 D.i12 (zC s3 D.TOi1.symm e));have u5:Sit b2 g5 i2 l2 (k+1):=t4.to λo e=>zC s5 D.TOi2.symm e;have zl:z<g5.objs.size:=_r z5;show wpAny _ _ (Builtin.SmallTypes.ownedTupleHandOut (.ref z) (.ref g5.objs.size) >>= _) _ _ _;refine _a ?_;unfold Builtin.SmallTypes.ownedTupleHandOut;have z6:IsZip (g5.push {cls:=.type "tuple",data:=.seq #[x,y]}) z TI TO .ellipsis:=_e _ z5;refine _a (_be z6 (by simp) λg7 z7 s7=>?_);replace z7:IsZip g7 z TI TO (rawInt g5.objs.size):=z7;refine _be z7 (by simp) λg8 z8 s8=>?_;replace z8:IsZip g8 z TI TO (rawInt g5.objs.size):=z8;have up:∀c o,c≠z->g5.get? c=some o->g8.get? c=some o:=λc o n e=>zC s8 n (zC s7 n (_e _ e));have p8:IsPair g8 g5.objs.size x y:=zC s8 (Nat.ne_of_gt zl) (zC s7 (Nat.ne_of_gt zl) (_t _ rfl));have e8:g8.objs.size=g5.objs.size+1:=by rw[s8.1,s7.1,_aw]
 rw[sz]at z8 p8 e8;refine _c ⟨_,rfl,_c ?_⟩;show Q (some (.ref g5.objs.size)) _;rw[sz];exact q g8 z8 (up _ _ D.TOz o5) (t5.to λo e=>up _ o D.i1z e) (u5.to λo e=>up _ o D.i2z e) p8 e8 λc o n1 n2 n3 n4 e=>up c o n1 (k5 c o n1 n2 n3 n4 e)
theorem zeZ {z TI TO i1 i2 l1 l2:Addr} {b1 b2:Bool} {k:Nat} {xs ys:Array Value} {a b:Value} {Q:Option Value->Shared->Prop} (hh:A.handled=none) (D:ZipApart z TI TO i1 i2 l1 l2) (hz:IsZip s.heap z TI TO .none) (hTI:IsPair s.heap TI (.ref i1) (.ref i2)) (hTO:IsPair s.heap TO a b) (h1:Sit b1 s.heap i1 l1 k) (h2:Sit b2 s.heap i2 l2 k) (c1:Sco b1 s.heap l1 xs) (c2:Sco b2 s.heap l2 ys) (en:xs[k]? = none\/ys[k]? = none) (q:∀h',(∀c o,c≠z->c≠TO->c≠i1->c≠i2->s.heap.get? c=some o->h'.get? c=some o)->Q none {s with heap:=h'}):wpAny (model P w) A (pyNext (.ref z)) Q E s:=by
 have hT:s.TypeIs (.ref z) "zip":=⟨_,hz,rfl⟩;have fin:∀h' e,(∀c o,c≠z->c≠TO->c≠i1->c≠i2->s.heap.get? c=some o->h'.get? c=some o)->(∃o,h'.get? e=some o/\o.cls=.type "StopIteration")-> wpAny (model P w) A (isInstance (.ref e) (.type "StopIteration") >>= λb=>if b=true then (pure none:Sem (Option Value)) else throw (.ref e)) Q E {s with heap:=h'}:=λh' e hk he=>by
  obtain⟨o,ho,hc⟩:=he;refine _a (_cm (T:="StopIteration") (b:=true) ⟨o,ho,hc⟩ isSubtype_stop ?_);exact _c (q _ hk)
 unfold pyNext;refine _a (_cq (_ac (name:=Str.ofString "__next__") hT _cA (_af _cA hT F.entry_zip_next ?_ (F.args_zip_next_1 _))));show wpAny _ _ (field (.ref z) 2 >>= _) _ _ _;refine _a (_am hz rfl (x:=.bool false) rfl ?_);show wpAny _ _ (field (.ref z) 3 >>= _) _ _ _;refine _a (_am hz rfl (x:=.ref TI) rfl ?_);refine _a (_aF hTI rfl ?_);show wpAny _ _ (Builtin.SmallTypes.ownedTupleIsFree (.ref z) >>= _) _ _ _;refine _a ?_;unfold Builtin.SmallTypes.ownedTupleIsFree;refine _a (_am hz rfl (x:=.none) rfl (_c ?_));simp only[_N];refine _a (_at ?_);refine _a (_am hz rfl (x:=.ref TO) rfl ?_);refine _a (_be hz (by simp) λg1 z1 s1=>?_);replace z1:IsZip g1 z TI TO .ellipsis:=z1;refine _a ?_;simp only[_dq,List.zipIdx_nil,List.forIn_cons,List.forIn_nil];refine _a (_a (_di ?_));show wpAny _ _ (Builtin.SmallTypes.nextOf (.ref i1) >>= _) _ _ _;cases ex:xs[k]? with
 | none=>
  refine _a (zaO hh (h1.to λo e=>zC s1 D.i1z e) (c1.to λo e=>zC s1 D.l1z e) ex λg2 e s2 he=>?_);obtain⟨oe,hoe,hce⟩:=he;have z2:IsZip g2 z TI TO .ellipsis:=s2 _ _ D.i1z.symm z1;have ez:e≠z:=λt=>by subst t;rw[z2]at hoe;cases hoe;simp at hce
  exact _be z2 (by simp) λg3 _ s3=>fin g3 e (λc o n1 _ n3 _ t=>zC s3 n1 (s2 _ _ n3 (zC s1 n1 t))) ⟨oe,zC s3 ez hoe,hce⟩ | some x=>
  have ey:ys[k]? = none:=by rcases en with t | t;rw[ex]at t;cases t;exact t
  refine _a (nx (h1.to λo e=>zC s1 D.i1z e) (c1.to λo e=>zC s1 D.l1z e) ex λg2 t2 s2=>_c ?_);have o2:IsPair g2 TO a b:=zC s2 D.TOi1 (zC s1 D.TOz hTO);refine _a (_aF o2 rfl ?_);refine _a (_ct o2 λg3 o3 s3=>?_);refine _a (_b0 (_c ?_));refine _a (_a (_di ?_));show wpAny _ _ (Builtin.SmallTypes.nextOf (.ref i2) >>= _) _ _ _;refine _a (zaO hh (h2.to λo e=>zC s3 D.TOi2.symm (zC s2 D.i12.symm (zC s1 D.i2z e))) (c2.to λo e=>zC s3 D.l2TO (zC s2 D.l2i1 (zC s1 D.l2z e))) ey λg4 e s4 he=>?_);obtain⟨oe,hoe,hce⟩:=he;have z4:IsZip g4 z TI TO .ellipsis:=s4 _ _ D.i2z.symm (zC s3 D.TOz.symm (zC s2 D.i1z.symm z1));have ez:e≠z:=λt=>by subst t;rw[z4]at hoe;cases hoe;simp at hce
  exact _be z4 (by simp) λg5 _ s5=>fin g5 e (λc o n1 n2 n3 n4 t=>zC s5 n1 (s4 _ _ n4 (zC s3 n2 (zC s2 n3 (zC s1 n1 t))))) ⟨oe,zC s5 ez hoe,hce⟩
end
noncomputable def itO(b:Bool)(l:Addr):Obj:=match b with
 | true=>{cls:=.type "list_iterator",data:=.fields #[.ref l,.int 0 0]} | false=>{cls:=.type "tuple_iterator",data:=.fields #[.ref l,.int 0 0]}
theorem z5t{b:Bool}{h:Heap}{a l:Addr}(e:h.get? a=some (itO b l)):Sit b h a l 0:=by cases b with
 | true=>exact⟨_,e,rfl,rfl⟩ | false=>exact⟨_,e,rfl,rfl⟩
theorem z32(b:Bool)(l:Addr):(itO b l).isFreed=false:=by cases b<;>rfl
section
variable {P:Program}{w:World}{A:Around}{E:Value->Shared->Prop}{s:Shared}
theorem z7C {b:Bool} {l:Addr} {xs:Array Value} {Q:Value->Shared->Prop} (h:Sco b s.heap l xs) (q:Q (.ref s.heap.objs.size) {s with heap:=s.heap.push (itO b l)}):wpAny (model P w) A (pyIter (.ref l)) Q E s:=by cases b with
 | true=>exact wpAny_pyIter_list h q | false=>exact wpAny_pyIter_tuple h q
end
noncomputable abbrev G1(b1:Bool)(h:Heap)(l1:Addr):Heap:=h.push (itO b1 l1)
noncomputable abbrev G2(b1 b2:Bool)(h:Heap)(l1 l2:Addr):Heap:=(G1 b1 h l1).push (itO b2 l2)
noncomputable abbrev G3(b1 b2:Bool)(h:Heap)(l1 l2:Addr):Heap:=(G2 b1 b2 h l1 l2).push {cls:=.type "tuple",data:=.seq #[.ref h.objs.size,.ref (G1 b1 h l1).objs.size]}
noncomputable abbrev G4(b1 b2:Bool)(h:Heap)(l1 l2:Addr):Heap:=(G3 b1 b2 h l1 l2).push {cls:=.type "tuple",data:=.seq #[.none,.none]}
noncomputable abbrev G5(b1 b2:Bool)(h:Heap)(l1 l2:Addr):Heap:=(G4 b1 b2 h l1 l2).push {cls:=.type "zip",data:=.fields #[.none,.bool false,.bool false,.ref (G2 b1 b2 h l1 l2).objs.size,.ref (G3 b1 b2 h l1 l2).objs.size]}
theorem z8X (b1 b2:Bool) (l1 l2:Addr) (xs ys:Array Value): Meets (Builtin.«zip.__new__» ⟨[.type "zip",.ref l1,.ref l2],[]⟩) (λ_ R s=>Sco b1 s.heap l1 xs/\Sco b2 s.heap l2 ys/\R (.ok (.ret (.ref (G4 b1 b2 s.heap l1 l2).objs.size))) {s with heap:=G5 b1 b2 s.heap l1 l2}):= .of_wp λprog w A R s h=>by
  obtain⟨hp,g,d,tk,os⟩:=s;obtain⟨c1,c2,h⟩:=h;have hsub:=sub_zip;have q1:Sco b1 (Shared.heap ⟨hp,g,d,tk,os⟩) l1 xs:=c1;have q2:Sco b2 (Shared.heap ⟨hp.push (itO b1 l1),g,d,tk,os⟩) l2 ys:=c2.to λo e=>_e _ e;wp_walk using z7C q1,z7C q2;exact⟨_,rfl,h⟩
section
variable {P:Program}{w:World}{A:Around}{E:Value->Shared->Prop}{s:Shared}
theorem zak {b1 b2:Bool} {l1 l2:Addr} {xs ys:Array Value} {Q:Value->Shared->Prop} (c1:Sco b1 s.heap l1 xs) (c2:Sco b2 s.heap l2 ys) (h:∀h',IsZip h' (s.heap.objs.size+4) (s.heap.objs.size+2) (s.heap.objs.size+3) .none->IsPair h' (s.heap.objs.size+2) (.ref s.heap.objs.size) (.ref (s.heap.objs.size+1))-> IsPair h' (s.heap.objs.size+3) .none .none->Sit b1 h' s.heap.objs.size l1 0->Sit b2 h' (s.heap.objs.size+1) l2 0->(∀c o,s.heap.get? c=some o->h'.get? c=some o)->Q (.ref (s.heap.objs.size+4)) {s with heap:=h'}): wpAny (model P w) A (call (.type "zip") [.ref l1,.ref l2]) Q E s:=by
 refine callType_new F.called_zip (by decide) (F.typeCall_zip_2 _ _) (F.newCall_zip_2 _ _) (λobj=>F.args_object_init_3 obj _ _) F.entry_zip_new (z8X b1 b2 l1 l2 xs ys) ⟨c1,c2,?_⟩;have z1:(G1 b1 s.heap l1).objs.size=s.heap.objs.size+1:=_aw ..;have z2:(G2 b1 b2 s.heap l1 l2).objs.size=s.heap.objs.size+2:=by rw[_aw,z1]
 have z3:(G3 b1 b2 s.heap l1 l2).objs.size=s.heap.objs.size+3:=by rw[_aw,z2]
 have z4:(G4 b1 b2 s.heap l1 l2).objs.size=s.heap.objs.size+4:=by rw[_aw,z3]
 have up:∀{h:Heap} {o:Obj} {c:Addr} {u:Obj},h.get? c=some u->(h.push o).get? c=some u:=λe=>_e _ e;have g5:(G5 b1 b2 s.heap l1 l2).get? (G4 b1 b2 s.heap l1 l2).objs.size=some _:=_t _ rfl;have g4:(G5 b1 b2 s.heap l1 l2).get? (G3 b1 b2 s.heap l1 l2).objs.size=some _:=up (_t _ rfl);have g3:(G5 b1 b2 s.heap l1 l2).get? (G2 b1 b2 s.heap l1 l2).objs.size=some _:=up (up (_t _ rfl));have g2:(G5 b1 b2 s.heap l1 l2).get? (G1 b1 s.heap l1).objs.size=some (itO b2 l2):=up (up (up (_t _ (z32 b2 l2))));have g1:(G5 b1 b2 s.heap l1 l2).get? s.heap.objs.size=some (itO b1 l1):=up (up (up (up (_t _ (z32 b1 l1)))));show _/\_;rw[z2,z3,z4]at g5;rw[z1,z2]at g3;rw[z3]at g4;rw[z1]at g2;rw[z4];exact⟨⟨_,g5,rfl⟩,h _ g5 g3 g4 (z5t g1) (z5t g2) λc o e=>up (up (up (up (up e))))⟩
end
end Zz
namespace L2
open Zz
def Sq(b:Bool)(K:W.Frag)(H:Hp)(a:Addr)(xs:List V):Prop:=match b with
 | true=>SqL K H a xs | false=>SqT K H a xs
section
variable {X:Cx}{pins:List (Addr×Obj)}{O:St}{H:Hp}{s:Shared}{h':Heap}
theorem Inv.sq{b:Bool}{a:Addr}{xs:List V}(I:Inv X pins O H s)(h:Sq b X.K H a xs):∃its:List Value,yF xs its/\Sco b s.heap a its.toArray:=by cases b with
 | true=>obtain⟨its,r,p,_⟩:=I.list h;exact⟨its,r,p.isList⟩ | false=>obtain⟨its,r,p,_⟩:=I.tuple h;exact⟨its,r,p⟩
theorem Inv.sq_inj{b:Bool}{a:Addr}{xs ys:List V}(I:Inv X pins O H s)(h:Sq b X.K H a xs)(h':Sq b X.K H a ys):xs=ys:=by cases b with
 | true=>exact I.list_inj h h' | false=>exact I.tuple_inj h h'
theorem Inv.turnedL {t':Nat} {ch:List Addr} (I:Inv X pins O H s) (k:∀b o,b∉ch->s.heap.get? b=some o->h'.get? b=some o) (f:∀b∈ch,z25 X pins H b):Inv X pins O H {s with heap:=h',toks:=t'}:=by
 have nit:∀b u,H b=some u->b∉ch:=λb u e z=>by rw[(f b z).1]at e;cases e
 refine I.step (g':=s.gens) (d':=s.drawn) (ch:=ch) (λb hb=>⟨(f b hb).2.2.2.1,(f b hb).2.1,(f b hb).2.2.2.2.1,(f b hb).2.2.2.2.2⟩) (λb o _ _ hc e _=>k b o hc e) (λb o _ _ hc e _=>⟨o.slots,k b o hc e⟩) (λ_ _ _ _ n=>n) (λb o hc e=>⟨o,k b o hc e⟩) (λ_ _ e=>e) (λ_ _ _ e=>e) (λb ps e=>⟨#[],by rw[e];simp⟩) (λm hm=>?_) (λb u e=>?_) I.bare
 ·obtain⟨o,es,ep,ho,r⟩:=hm;exact⟨o,es,ep,k _ o (λz=>(f _ z).2.1 rfl) ho,r⟩
 ·refine (I.hok b u e).stay (λc v hc q=>k c v ?_ q) (λ_ q=>q) λ_ _ q=>q;rcases hc with z | z;·rw[z];exact nit b u e
  ·exact nit c _ z
end
noncomputable def Itz(K:W.Frag)(b1 b2:Bool)(l1 l2:Addr):It:= ⟨λi H=>∃xs ys x y,Sq b1 K H l1 xs/\Sq b2 K H l2 ys/\xs[i]? = some x/\ys[i]? = some y, λi H v H'=>∃T x y,H T=none/\v=.ref T/\H'=upd H T (.tup [x,y])/\(∀xs,Sq b1 K H l1 xs->xs[i]? = some x)/\∀ys,Sq b2 K H l2 ys->ys[i]? = some y, λi H=>∃xs ys,Sq b1 K H l1 xs/\Sq b2 K H l2 ys/\(xs.length<=i\/ys.length<=i)⟩
theorem zad {P:Program} {w:World} {K:W.Frag} {elts:List Expr} {kt:Nat} {tp:Pos} {b1 b2:Bool} {z TI TO i1 i2 l1 l2:Addr} (D:ZipApart z TI TO i1 i2 l1 l2): zaY P w K (.Tuple elts kt tp) (Itz K b1 b2 l1 l2) [z,TI,TO,i1,i2] z (λi h=>IsZip h z TI TO .none/\IsPair h TI (.ref i1) (.ref i2)/\(∃a b,IsPair h TO a b)/\Sit b1 h i1 l1 i/\Sit b2 h i2 l2 i) where
 mem:=by simp
 obj:=λi h ⟨hz,hTI,⟨a,b,hTO⟩,h1,h2⟩ c hc=>by
  have hc':c=z\/c=TI\/c=TO\/c=i1\/c=i2:=by simpa using hc
  rcases hc' with rfl | rfl | rfl | rfl | rfl;·exact⟨_,hz,λv e=>by simp at e⟩
  ·exact⟨_,hTI,λv e=>by simp at e⟩
  ·exact⟨_,hTO,λv e=>by simp at e⟩
  ·exact h1.ob
  ·exact h2.ob
 keep:=λi h h' ⟨hz,hTI,⟨a,b,hTO⟩,h1,h2⟩ k=>⟨k z (by simp) _ hz,k TI (by simp) _ hTI,⟨a,b,k TO (by simp) _ hTO⟩,h1.to λo e=>k i1 (by simp) o e,h2.to λo e=>k i2 (by simp) o e⟩;item:=by
  intro X hP hw hK hc i pins s O H E I hf ⟨hz,hTI,⟨a,b,hTO⟩,h1,h2⟩ ⟨xs,ys,x,y,qx,qy,ex,ey⟩;subst hP hw hK;obtain⟨ix,rx,cx⟩:=I.sq qx;obtain⟨iy,ry,cy⟩:=I.sq qy;obtain⟨u,hu,ru⟩:=rx.get ex;obtain⟨v,hv,rv⟩:=ry.get ey;refine zbR D hz hTI hTO h1 h2 cx cy (x:=u) (y:=v) (by simpa using hu) (by simpa using hv) λg a1 a2 a3 a4 a5 a6 hk=>⟨_,rfl,?_⟩;have kk:∀c o,c∉[z,TO,i1,i2]->s.heap.get? c=some o->g.get? c=some o:=λc o n e=>hk c o (λt=>n (by simp[t])) (λt=>n (by simp[t])) (λt=>n (by simp[t])) (λt=>n (by simp[t])) e;have sub:∀c∈[z,TO,i1,i2],c∈[z,TI,TO,i1,i2]:=λc hc=>by
   have:c=z\/c=TO\/c=i1\/c=i2:=by simpa using hc
   rcases this with rfl | rfl | rfl | rfl<;>simp
  have I1:Inv X pins O H {s with heap:=g}:=I.turnedL (t':=s.toks) kk λc hc=>hf c (sub c hc);refine wpAny_letOwnedTupleGo_zip a1 λg2 z2 s2=>?_;obtain⟨f0,f1,f2,f3,f4,f5⟩:=hf z (by simp);have I2:Inv X pins O H {s with heap:=g2}:=I1.turned (t':=s.toks) (λc o n e=>zC s2 n e) f0 f1 f3 f4 f5;have new:z25 X pins H s.heap.objs.size:=I.fpOk (_f _) (I.hok.fresh (_f _));have ne:∀{c:Addr} {o:Obj},s.heap.get? c=some o->c≠s.heap.objs.size:=λe=>_G (_r e);have p2:IsPair g2 s.heap.objs.size u v:=zC s2 (ne hz).symm a5;refine⟨.ref s.heap.objs.size,upd H s.heap.objs.size (.tup [x,y]),I2.track new ⟨?_,[u,v],.cons ru (.cons rv .nil),⟨_,p2,rfl,rfl,_,rfl⟩⟩,rfl,⟨_,x,y,new.1,rfl,rfl,λzs qz=>?_,λzs qz=>?_⟩,⟨z2,?_,⟨_,_,zC s2 D.TOz a2⟩,a3.to λo e=>zC s2 D.i1z e,a4.to λo e=>zC s2 D.i2z e⟩,λc hc=>?_⟩;·show 2<=sizeLine;decide
  ·rw[I.sq_inj qz qx];exact ex
  ·rw[I.sq_inj qz qy];exact ey
  ·exact zC s2 D.TIz (hk TI _ D.TIz D.TITO D.TIi1 D.TIi2 hTI)
  ·have hc':c=z\/c=TI\/c=TO\/c=i1\/c=i2:=by simpa using hc
   have:c≠s.heap.objs.size:=by
    rcases hc' with rfl | rfl | rfl | rfl | rfl;·exact ne hz
    ·exact ne hTI
    ·exact ne hTO
    ·exact _G h1.lt
    ·exact _G h2.lt
   rw[zg this];exact (hf c hc).1
 done:=by
  intro X hP hw hK hc i pins s O H E I hf ⟨hz,hTI,⟨a,b,hTO⟩,h1,h2⟩ ⟨xs,ys,qx,qy,hl⟩;subst hP hw hK;obtain⟨ix,rx,cx⟩:=I.sq qx;obtain⟨iy,ry,cy⟩:=I.sq qy;have lx:=rx.length;have ly:=ry.length;refine zeZ (I.ok.hd hc) D hz hTI hTO h1 h2 cx cy ?_ λg hk=>⟨rfl,?_⟩
  ·rcases hl with hl | hl;·exact .inl (by simp;omega)
   ·exact .inr (by simp;omega)
  ·exact I.turnedL (t':=s.toks) (ch:=[z,TO,i1,i2]) (λc o n e=>hk c o (λt=>n (by simp[t])) (λt=>n (by simp[t])) (λt=>n (by simp[t])) (λt=>n (by simp[t])) e) λc hc=>hf c (by
    have:c=z\/c=TO\/c=i1\/c=i2:=by simpa using hc
    rcases this with rfl | rfl | rfl | rfl<;>simp)
 self:=λ_ _ _ _ _ st h=>wpAny_pyIter_zip st.1 h
theorem zfc{X:Cx}{elts:List Expr}{kt:Nat}{tp:Pos}{a b:Expr}{ta:TA}{p pos:Pos}(hg:Gl X "zip")(hm:X.mg "zip"=none)(ha:PA X [a,b] ta)(hs:starEach [a,b] X.env=(false,eval a X.env)::starEach [b] X.env:=by rfl)(hpl:(backTo pos (starEach [b] X.env)).any (·.1)=false:=by rfl): PI X (.Tuple elts kt tp) (.Call (.Name "zip" p) [a,b] [] pos) (λO H R=>ta O H λvs H1=>∃l1 l2 b1 b2,vs=[.ref l1,.ref l2]/\(∃xs,Sq b1 X.K H1 l1 xs)/\(∃ys,Sq b2 X.K H1 l2 ys)/\R (Itz X.K b1 b2 l1 l2) H1):=by
 intro pins s O H R I h;refine _bu (z18 I hg hm (u:=.type "zip") (by first | exact PySem.boot_zip | rfl | decide +kernel) ?_ (by decide) (by decide));refine _a7 (thn (ha pos pins s O H _ I h) λus s1 ⟨vs,H1,I1,r1,q1⟩=>?_) hs hpl;obtain⟨l1,l2,b1,b2,rfl,⟨xs,qx⟩,⟨ys,qy⟩,q⟩:=q1;cases r1 with | cons r1 r2=> cases r2 with | cons r2 r3=>
   cases r3;cases r1;cases r2;obtain⟨ix,rx,cx⟩:=I1.sq qx;obtain⟨iy,ry,cy⟩:=I1.sq qy;have lt1:l1<s1.heap.objs.size:=by cases b1 with
    | true=>obtain⟨o,e,_⟩:=cx;exact _r e | false=>obtain⟨o,e,_⟩:=cx;exact _r e
   have lt2:l2<s1.heap.objs.size:=by cases b2 with
    | true=>obtain⟨o,e,_⟩:=cy;exact _r e | false=>obtain⟨o,e,_⟩:=cy;exact _r e
   have D:ZipApart (s1.heap.objs.size+4) (s1.heap.objs.size+2) (s1.heap.objs.size+3) s1.heap.objs.size (s1.heap.objs.size+1) l1 l2:=by
    have e1:∀k:Nat,l1≠s1.heap.objs.size+k:=λk=>_G (_w lt1 (_bq _ _));have e2:∀k:Nat,l2≠s1.heap.objs.size+k:=λk=>_G (_w lt2 (_bq _ _));have nk:∀(m j k:Nat),j≠k->m+j≠m+k:=λm j k h z=>h (Nat.add_left_cancel z);exact⟨nk _ 2 4 (by decide),nk _ 3 4 (by decide),nk _ 0 4 (by decide),nk _ 1 4 (by decide),nk _ 2 3 (by decide),nk _ 2 0 (by decide),nk _ 2 1 (by decide),nk _ 3 0 (by decide),nk _ 3 1 (by decide),nk _ 0 1 (by decide),e1 4,e1 3,e1 0,e1 1,e2 4,e2 3,e2 0,e2 1⟩
   refine zak cx cy λg hz hTI hTO h1 h2 hk=>?_;refine wpAny_pyIter_zip hz ?_;refine⟨_,_,_,_,H1,rfl,I1.kept (t':=s1.toks) hk,zad D,⟨hz,hTI,⟨_,_,hTO⟩,h1,h2⟩,λc hc=>?_,q⟩;have hc':s1.heap.objs.size<=c:=by
    have:c=s1.heap.objs.size+4\/c=s1.heap.objs.size+2\/c=s1.heap.objs.size+3\/c=s1.heap.objs.size\/c=s1.heap.objs.size+1:=by simpa using hc
    rcases this with rfl | rfl | rfl | rfl | rfl<;>first | exact _f _ | exact _bq _ _
   exact I1.fpOk hc' (I1.hok.fresh hc')
end L2
namespace Zz
section
variable {P:Program}{w:World}{A:Around}{E:Value->Shared->Prop}{s:Shared}
theorem z1m {b : Bool} {l : Addr} {its : Array Value} {Q : Value → Shared → Prop} (hh : A.handled = none) (h : Sco b s.heap l its) (k : ∀s2 : Shared, s2 = { s with heap := s.heap.push (itO b l) } → ∀St : Nat → Heap → Prop, Walks P w A s.heap.objs.size [s.heap.objs.size, l] [s.heap.objs.size] its.size (λi v => its[i]? = some v) St → St 0 s2.heap → (∀c ∈ [s.heap.objs.size, l], c < s2.heap.objs.size) → (∀h' : Heap, (∀c o, c ∉ [s.heap.objs.size] → s2.heap.get? c = some o → h'.get? c = some o) → ∀c o, s.heap.get? c = some o → h'.get? c = some o) → Q (.ref s.heap.objs.size) s2) : wpAny (model P w) A (pyIter (.ref l)) Q E s := by
  have lt : l < s.heap.objs.size := by cases b with
    | true => obtain⟨o, e, _⟩ := h; exact _r e | false => obtain⟨o, e, _⟩ := h; exact _r e
  have ne : l ≠ s.heap.objs.size := _G lt;have bd : ∀c ∈ [s.heap.objs.size, l], c < (s.heap.push (itO b l)).objs.size := λc hc => by
    have : c = s.heap.objs.size ∨ c = l := by simpa using hc
    rw[_aw];rcases this with rfl | rfl;· exact _bK _
    · exact _aN lt
  have old : ∀h' : Heap, (∀c o, c ∉ [s.heap.objs.size] → (s.heap.push (itO b l)).get? c = some o → h'.get? c = some o) → ∀c o, s.heap.get? c = some o → h'.get? c = some o := λh' hk c o e =>
    hk c o (fun z => by have : c = s.heap.objs.size := by simpa using z
                        exact absurd (this ▸ _r e) (_ax _)) (_e _ e);refine z7C h ?_;have g : (s.heap.push (itO b l)).get? s.heap.objs.size = some (itO b l) := _t _ (z32 b l);cases b with
  | true => exact k _ rfl _ (Walks.list hh _ l ne its) ⟨z5t (b := true) g, Sco.to (b := true) h λo e => _e _ e⟩ bd old | false => exact k _ rfl _ (Walks.tuple hh _ l ne its) ⟨z5t (b := false) g, Sco.to (b := false) h λo e => _e _ e⟩ bd old
end
end Zz
namespace L2
open Zz
noncomputable def maxL:List Int->Int
 | []=>0 | x::xs=>xs.foldl max x
noncomputable def minL:List Int->Int
 | []=>0 | x::xs=>xs.foldl min x
theorem vC:∀(xs:List Int)(x:Int),x<=xs.foldl max x/\(∀y∈xs,y<=xs.foldl max x)/\(xs.foldl max x=x\/xs.foldl max x∈xs)
 | [],x=>⟨Int.le_refl _,by simp,.inl rfl⟩ | y::ys,x=>by
  obtain⟨h1,h2,h3⟩:=vC ys (max x y);refine⟨by simp only[_a5];omega,λz hz=>?_,?_⟩
  ·simp only[_a5];rcases _h.mp hz with rfl | hz;·omega
   ·exact h2 z hz
  ·simp only[_a5];rcases h3 with h3 | h3
   ·rw[h3];rcases Int.le_total x y with h | h;·exact .inr (by rw[Int.max_eq_right h];simp)
    ·exact .inl (Int.max_eq_left h)
   ·exact .inr (_C _ h3)
theorem vE:∀(xs:List Int)(x:Int),xs.foldl min x<=x/\(∀y∈xs,xs.foldl min x<=y)/\(xs.foldl min x=x\/xs.foldl min x∈xs)
 | [],x=>⟨Int.le_refl _,by simp,.inl rfl⟩ | y::ys,x=>by
  obtain⟨h1,h2,h3⟩:=vE ys (min x y);refine⟨by simp only[_a5];omega,λz hz=>?_,?_⟩
  ·simp only[_a5];rcases _h.mp hz with rfl | hz;·omega
   ·exact h2 z hz
  ·simp only[_a5];rcases h3 with h3 | h3
   ·rw[h3];rcases Int.le_total x y with h | h;·exact .inl (Int.min_eq_left h)
    ·exact .inr (by rw[Int.min_eq_right h];simp)
   ·exact .inr (_C _ h3)
theorem maxL_ge{xs:List Int}:∀y∈xs,y<=maxL xs:=by cases xs with
 | nil=>simp | cons x xs=>intro y hy;rcases _h.mp hy with rfl | hy;exact (vC xs y).1;exact (vC xs x).2.1 y hy
theorem maxL_mem{xs:List Int}(h:xs≠[]):maxL xs∈xs:=by cases xs with
 | nil=>exact absurd rfl h | cons x xs=>rcases (vC xs x).2.2 with e | e;exact (show xs.foldl max x∈x::xs by rw[e];simp);exact _C _ e
theorem minL_le{xs:List Int}:∀y∈xs,minL xs<=y:=by cases xs with
 | nil=>simp | cons x xs=>intro y hy;rcases _h.mp hy with rfl | hy;exact (vE xs y).1;exact (vE xs x).2.1 y hy
theorem minL_mem{xs:List Int}(h:xs≠[]):minL xs∈xs:=by cases xs with
 | nil=>exact absurd rfl h | cons x xs=>rcases (vE xs x).2.2 with e | e;exact (show xs.foldl min x∈x::xs by rw[e];simp);exact _C _ e
section
variable {X:Cx}
theorem z1l {ns:List Int} {its:List Value} (r:yF (ns.map V.int) its) {i:Nat} {v:Value} (e:its.toArray[i]? = some v):∃t,v=.int (ns.getD i 0) t/\i<ns.length:=by
 have e':its[i]? = some v:=by simpa using e
 have hl:=r.length;have hi:i<ns.length:=by
  have:=(_b.mp e').1;simp at hl;omega
 obtain⟨u,hu,ru⟩:=r.get (i:=i) (x:=V.int ns[i]) (by simp[hi]);rw[e']at hu;cases hu;obtain⟨t,rfl⟩:=ru;exact⟨t,by simp[List.getD,hi],hi⟩
theorem getD_in{ns:List Int}{i:Nat}(h:i<ns.length):ns.getD i 0∈ns:=by
 rw[List.getD,_n h];exact _a9 _
theorem z8Q (hc:X.calm=true):xG X (.builtin "max") (λxs H Q=>∃b p ns,xs=[.ref p]/\Sq b X.K H p (ns.map V.int)/\ns≠[]/\Q (.int (maxL ns)) H):=by
 intro pins s O H xs us Q I r h;obtain⟨b,p,ns,rfl,hq,hne,q⟩:=h;obtain⟨u,rfl,ru⟩:=vals1 r;cases ru;obtain⟨its,rv,co⟩:=I.sq hq;have hl:its.length=ns.length:=by have:=rv.length;simp at this;omega
 have hn:0<ns.length:=_cK.mpr hne;refine call_max_walk (z1m (I.ok.hd hc) co λs2 e2 St W st bd old=>?_);subst e2;refine⟨_,_,_,_,_,_,_,rfl,W,st,bd,by simpa[hl] using hn,CmpOf.ints_gt (λi=>ns.getD i 0) (λi v e=>let ⟨t,e1,_⟩:=z1l rv e;⟨t,e1⟩),λv h' tk e hk=>?_⟩;obtain⟨t,e1,lt⟩:=z1l rv e;obtain⟨h1,h2⟩:=argBest_gt (λi=>ns.getD i 0) (its.toArray.size-1);have em:ns.getD (argBest (λi j=>decide (ns.getD i 0 > ns.getD j 0)) (its.toArray.size-1)) 0=maxL ns:=by
  refine Int.le_antisymm (maxL_ge _ ?_) ?_;·exact getD_in lt
  ·obtain⟨j,hj,ej⟩:=_Y.mp (maxL_mem hne);have:=h2 j (by simp[hl];omega);simp only[List.getD,_n hj,_cn,ej]at this;simpa[List.getD] using this
 rw[e1,em];exact⟨.int (maxL ns),H,I.kept (t':=tk) (old h' hk),⟨t,rfl⟩,q⟩
theorem z7q (hc:X.calm=true):xG X (.builtin "min") (λxs H Q=>∃b p ns,xs=[.ref p]/\Sq b X.K H p (ns.map V.int)/\ns≠[]/\Q (.int (minL ns)) H):=by
 intro pins s O H xs us Q I r h;obtain⟨b,p,ns,rfl,hq,hne,q⟩:=h;obtain⟨u,rfl,ru⟩:=vals1 r;cases ru;obtain⟨its,rv,co⟩:=I.sq hq;have hl:its.length=ns.length:=by have:=rv.length;simp at this;omega
 have hn:0<ns.length:=_cK.mpr hne;refine call_min_walk (z1m (I.ok.hd hc) co λs2 e2 St W st bd old=>?_);subst e2;refine⟨_,_,_,_,_,_,_,rfl,W,st,bd,by simpa[hl] using hn,CmpOf.ints_lt (λi=>ns.getD i 0) (λi v e=>let ⟨t,e1,_⟩:=z1l rv e;⟨t,e1⟩),λv h' tk e hk=>?_⟩;obtain⟨t,e1,lt⟩:=z1l rv e;obtain⟨h1,h2⟩:=argBest_lt (λi=>ns.getD i 0) (its.toArray.size-1);have em:ns.getD (argBest (λi j=>decide (ns.getD i 0<ns.getD j 0)) (its.toArray.size-1)) 0=minL ns:=by
  refine Int.le_antisymm ?_ (minL_le _ ?_)
  ·obtain⟨j,hj,ej⟩:=_Y.mp (minL_mem hne);have:=h2 j (by simp[hl];omega);simp only[List.getD,_n hj,_cn,ej]at this;simpa[List.getD] using this
  ·exact getD_in lt
 rw[e1,em];exact⟨.int (minL ns),H,I.kept (t':=tk) (old h' hk),⟨t,rfl⟩,q⟩
theorem all_range{bs:List Bool}:(List.range bs.length).all (λi=>bs.getD i false)=bs.all id:=by
 rw[Bool.eq_iff_iff];simp only[_ag,_bD,id];constructor
 ·intro h x hx;obtain⟨j,hj,ej⟩:=_Y.mp hx;have:=h j hj;simpa[List.getD,hj,ej] using this
 ·intro h i hi;simp only[List.getD,_n hi,_cn];exact h _ (_a9 _)
theorem z85 (hc:X.calm=true):xG X (.builtin "all") (λxs H Q=>∃(b:Bool) (p:Addr) (bs:List Bool),xs=[.ref p]/\Sq b X.K H p (bs.map V.bl)/\Q (.bl (bs.all id)) H):=by
 intro pins s O H xs us Q I r h;obtain⟨b,p,bs,rfl,hq,q⟩:=h;obtain⟨u,rfl,ru⟩:=vals1 r;cases ru;obtain⟨its,rv,co⟩:=I.sq hq;have hl:its.length=bs.length:=by have:=rv.length;simp at this;omega
 refine call_all_walk (z1m (I.ok.hd hc) co λs2 e2 St W st bd old=>?_);subst e2;refine⟨_,_,_,_,_,_,λi=>bs.getD i false,rfl,W,st,λi v s3 Q3 E3 e q3=>?_,λh' tk hk=>?_⟩
 ·have e':its[i]? = some v:=by simpa using e
  have hi:i<bs.length:=by have:=(_b.mp e').1;omega
  obtain⟨u,hu,ru⟩:=rv.get (i:=i) (x:=V.bl bs[i]) (by simp[hi]);rw[e']at hu;cases hu;cases ru;have:bs.getD i false=bs[i]:=by simp[List.getD,hi]
  have q3:Q3 (bs.getD i false) s3:=q3;rw[this]at q3;exact _ak q3
 ·have ez:its.toArray.size=bs.length:=by simp[hl]
  rw[ez,all_range];exact⟨.bl (bs.all id),H,I.kept (t':=tk) (old h' hk),rfl,q⟩
end
end L2
namespace L2
theorem z56{X:Cx}:xG X (.builtin "isinstance") (λxs H Q=>∃x t T b,xs=[x,.ty T]/\z63 X.K H x t/\W.kitOne X.K t (.type T)=some b/\Q (.bl b) H):=by
 intro pins s O H xs us Q I r h;obtain⟨x,t,T,b,rfl,ht,hk,q⟩:=h;obtain⟨u,v,rfl,ru,rv⟩:=vals2 r;cases rv;exact z7R I ru ht hk λtk=>⟨.bl b,H,I.tok _,rfl,q⟩
end L2
namespace Dd
open L2
noncomputable def tyD:D->Option String
 | .non=>some "NoneType" | .bl _=>some "bool" | .int _=>some "int" | .str _=>some "str" | .tup _=>some "tuple" | .lst _=>some "list" | .loc _=>some "list" | .dct=>some "dict" | _=>none
noncomputable def isT(T t:String):Bool:=t==T||(T=="int"&&t=="bool")
noncomputable def gIs(T:String):D->Sto->R D:=λd s=>match tyD d with | some t=>.ok (.bl (isT T t)) s | none=>.no
theorem zd3{K:W.Frag}{t:String}(h:t∈["NoneType","bool","int","str","tuple","list","dict"])(T:String)(hT:T∈["int","bool","str","tuple","list"]):W.kitOne K (.type t) (.type T)=some (isT T t):=by
 have hh:t="NoneType"\/t="bool"\/t="int"\/t="str"\/t="tuple"\/t="list"\/t="dict":=by simpa using h
 have hh':T="int"\/T="bool"\/T="str"\/T="tuple"\/T="list":=by simpa using hT
 rcases hh with rfl | rfl | rfl | rfl | rfl | rfl | rfl<;>rcases hh' with rfl | rfl | rfl | rfl | rfl<;>kernel_rfl
theorem zeu{mg:Gm}{H:Hp}{Y:List Addr}{s:Sto}{d:D}{v:V}{t:String}(r:Rep mg H Y s)(dn:Den mg H Y d v)(e:tyD d=some t):z63 mg.K H v (.type t)/\t∈["NoneType","bool","int","str","tuple","list","dict"]:=by cases d with
 | non=>simp only[Den]at dn;subst dn;cases e;exact⟨.non,by simp⟩ | bl b=>cases jv dn;cases e;exact⟨.bl b,by simp⟩ | int b=>cases yb dn;cases e;exact⟨.int b,by simp⟩ | str b=>cases zbC dn;cases e;exact⟨.str b,by simp⟩ | tup b=>
  cases e;simp only[Den]at dn;obtain⟨a,vs,rfl,h1,_⟩:=dn;exact⟨.tup h1,by simp⟩ | lst b=>
  cases e;simp only[Den]at dn;obtain⟨a,o,vs,rfl,h1,_⟩:=dn;exact⟨.frz h1,by simp⟩ | loc l=>
  cases e;simp only[Den]at dn;obtain⟨a,rfl,h1,vs,h2⟩:=dn;exact⟨.lst h2,by simp⟩ | dct=>
  cases e;simp only[Den]at dn;obtain⟨a,rfl,h1⟩:=dn;exact⟨.dK h1,by simp⟩ | _=>cases e
section
variable {X:Cx}{E:XK}{e a b c tg:Expr}{es:List Expr}{pos:Pos}{CX:CXT}
noncomputable def eIs(T:String)(f:FE):FE:=fun ρ s=>(f ρ s).bind λd s1=>gIs T d s1
theorem z3g{p p2:Pos}{T:String}{tn:Str}{f:FE}(hT:T∈["int","bool","str","tuple","list"])(hv:bootBuiltins tn=some (.type T))(hg:Gl X "isinstance")(hm:X.mg "isinstance"=none)(hg2:Gl X tn)(hm2:X.mg tn=none)(he:RE X E e f) (hn:tn≠"__name__":=by decide)(hd:(tn==("__debug__":Str))=false:=by decide) (hs:starEach [e,.Name tn p2] X.env=(false,eval e X.env)::starEach [.Name tn p2] X.env:=by rfl)(hpl:(backTo pos (starEach [.Name tn p2] X.env)).any (·.1)=false:=by rfl):RE X E (.Call (.Name "isinstance" p) [e,.Name tn p2] [] pos) (eIs T f):= yh (z5X z56 hg hm (by decide +kernel) (qj he (qj (zca hg2 hm2 hv (show yq (.ty T) (.type T) from rfl) hn hd) jy) hs) (by decide) (by decide) hs hpl) λO H Q ⟨Y,ρ,s,r,en,h⟩=>by
  refine yd (k:=fun ρ d s1=>gIs T d s1) r en h _ λv H1 Y1 s1 d r1 en1 dn stp h1=>?_;unfold gIs at h1;split at h1
  ·rename_i t et;obtain⟨q1,q2⟩:=zeu r1 dn et;exact⟨v,.type t,T,isT T t,rfl,q1,zd3 q2 T hT,okR.here (b:=V.bl (isT T t)) h1 r1 xQ⟩
  ·exact h1.elim
noncomputable def zbF:List D->Sto->R D
 | [.int i],s=>.ok (.int (if i<0 then -i else i)) s | _,_=>.no
theorem zgG:∃r,xG X (.builtin "abs") r/\jH X E r zbF:=⟨_,z9w,λH Y s ds vs Q r hd h=>by
 unfold zbF at h;split at h
 ·rename_i i;obtain⟨v,rfl,dn⟩:=z0F hd;cases yb dn;exact⟨i,rfl,h.here r yW⟩
 ·exact h.elim⟩
noncomputable def intsOf:List D->Option (List Int)
 | []=>some [] | .int i::r=>(intsOf r).map (i::·) | _=>none
noncomputable def bools:List D->Option (List Bool)
 | []=>some [] | .bl i::r=>(bools r).map (i::·) | _=>none
theorem vS:∀{xs:List D}{ns:List Int},intsOf xs=some ns->xs=ns.map D.int
 | [],ns,h=>by simp[intsOf]at h;subst h;rfl | .int i::r,ns,h=>by
  simp only[intsOf,_A]at h;obtain⟨ms,h1,rfl⟩:=h;rw[vS h1];rfl
theorem xx(ns:List Int):intsOf (ns.map D.int)=some ns:=by induction ns with
 | nil=>rfl | cons n ns ih=>simp[intsOf,ih]
theorem z5q:∀{xs:List D}{ns:List Bool},bools xs=some ns->xs=ns.map D.bl
 | [],ns,h=>by simp[bools]at h;subst h;rfl | .bl i::r,ns,h=>by
  simp only[bools,_A]at h;obtain⟨ms,h1,rfl⟩:=h;rw[z5q h1];rfl
theorem z3z(ns:List Bool):bools (ns.map D.bl)=some ns:=by induction ns with
 | nil=>rfl | cons n ns ih=>simp[bools,ih]
theorem vT{mg:Gm}{H:Hp}{Y:List Addr}:∀{ns:List Int}{vs:List V},zq mg H Y (ns.map D.int) vs->vs=ns.map V.int
 | [],vs,h=>by simpa[zq] using h | n::ns,vs,h=>by
  simp only[_l,zq]at h;obtain⟨v,r,rfl,h1,h2⟩:=h;cases yb h1;rw[vT h2];rfl
theorem z5i{mg:Gm}{H:Hp}{Y:List Addr}:∀{ns:List Bool}{vs:List V},zq mg H Y (ns.map D.bl) vs->vs=ns.map V.bl
 | [],vs,h=>by simpa[zq] using h | n::ns,vs,h=>by
  simp only[_l,zq]at h;obtain⟨v,r,rfl,h1,h2⟩:=h;cases jv h1;rw[z5i h2];rfl
noncomputable def vp:List D->Sto->R D
 | [d],s=>match (ye s d).bind intsOf with | some (n::ns)=>.ok (.int (maxL (n::ns))) s | _=>.no
 | _,_=>.no
noncomputable def jQ:List D->Sto->R D
 | [d],s=>match (ye s d).bind intsOf with | some (n::ns)=>.ok (.int (minL (n::ns))) s | _=>.no
 | _,_=>.no
noncomputable def z71:List D->Sto->R D
 | [d],s=>match (ye s d).bind bools with | some ns=>.ok (.bl (ns.all id)) s | none=>.no
 | _,_=>.no
theorem z5E{K:W.Frag}{H:Hp}{a:Addr}{vs:List V}(h:SqL K H a vs\/SqT K H a vs):∃b,Sq b K H a vs:=h.elim (λh=>⟨true,h⟩) λh=>⟨false,h⟩
theorem z1N(hc:X.calm=true):∃r,xG X (.builtin "max") r/\jH X E r vp:=⟨_,z8Q hc,λH Y s ds vs Q r hd h=>by
 unfold vp at h;split at h
 ·rename_i d;split at h
  ·rename_i n ns e;obtain⟨xs,e1,e2⟩:=_a2.mp e;have:=vS e2;subst this;obtain⟨v,rfl,dn⟩:=z0F hd;obtain⟨a,ws,rfl,q1,q2⟩:=uy (K:=X.K) r e1 dn;cases vT q2;obtain⟨b,q⟩:=z5E q1;exact⟨b,a,n::ns,rfl,q,by simp,h.here r yW⟩
  ·exact h.elim
 ·exact h.elim⟩
theorem z7u(hc:X.calm=true):∃r,xG X (.builtin "min") r/\jH X E r jQ:=⟨_,z7q hc,λH Y s ds vs Q r hd h=>by
 unfold jQ at h;split at h
 ·rename_i d;split at h
  ·rename_i n ns e;obtain⟨xs,e1,e2⟩:=_a2.mp e;have:=vS e2;subst this;obtain⟨v,rfl,dn⟩:=z0F hd;obtain⟨a,ws,rfl,q1,q2⟩:=uy (K:=X.K) r e1 dn;cases vT q2;obtain⟨b,q⟩:=z5E q1;exact⟨b,a,n::ns,rfl,q,by simp,h.here r yW⟩
  ·exact h.elim
 ·exact h.elim⟩
theorem zcj(hc:X.calm=true):∃r,xG X (.builtin "all") r/\jH X E r z71:=⟨_,z85 hc,λH Y s ds vs Q r hd h=>by
 unfold z71 at h;split at h
 ·rename_i d;split at h
  ·rename_i ns e;obtain⟨xs,e1,e2⟩:=_a2.mp e;have:=z5q e2;subst this;obtain⟨v,rfl,dn⟩:=z0F hd;obtain⟨a,ws,rfl,q1,q2⟩:=uy (K:=X.K) r e1 dn;cases z5i q2;obtain⟨b,q⟩:=z5E q1;exact⟨b,a,ns,rfl,q,h.here r xQ⟩
  ·exact h.elim
 ·exact h.elim⟩
noncomputable def z3i:List D->List D->List D
 | x::xs,y::ys=>.tup [x,y]::z3i xs ys | _,_=>[]
theorem z15:∀(xs ys:List D),(z3i xs ys).length=min xs.length ys.length
 | [],ys=>by simp[z3i] | x::xs,[]=>by simp[z3i] | x::xs,y::ys=>by simp only[z3i,_s,z15 xs ys];omega
theorem z7c:∀{xs ys:List D}{i:Nat}{d:D},(z3i xs ys)[i]? = some d->∃x y,xs[i]? = some x/\ys[i]? = some y/\d=.tup [x,y]
 | [],ys,i,d,h=>by simp[z3i]at h | x::xs,[],i,d,h=>by simp[z3i]at h | x::xs,y::ys,0,d,h=>by simp[z3i]at h;exact⟨x,y,by simp,by simp,h.symm⟩ | x::xs,y::ys,i+1,d,h=>by
  simp only[z3i,_aK]at h;obtain⟨a,b,h1,h2,h3⟩:=z7c h;exact⟨a,b,by simpa using h1,by simpa using h2,h3⟩
noncomputable def zb5(s:Sto):D->Option (List D×List (Nat×List D))
 | .tup xs=>some (xs,[]) | .lst xs=>some (xs,[]) | .loc l=>(s[l]?).map λxs=>(xs,[(l,xs)]) | _=>none
theorem z82{mg:Gm}{H:Hp}{Y:List Addr}{s:Sto}{d:D}{xs:List D}{g:List (Nat×List D)}{v:V}(r:Rep mg H Y s)(h:zb5 s d=some (xs,g))(dn:Den mg H Y d v):okG g [] s/\∃(b:Bool)(a:Addr),v=.ref a/\ ∀H2 Y2 s2,yw mg H Y H2 Y2 s2->okG g [] s2->∃ws,Sq b mg.K H2 a ws/\zq mg H2 Y2 xs ws:=by cases d with
 | tup ys=>
  cases h;obtain⟨a,vs,rfl,q1,q2⟩:=qB (K:=mg.K) dn;refine⟨(by intro p hp;simp at hp),false,a,rfl,λH2 Y2 s2 stp _=>?_⟩;obtain⟨a',ws,e,q3,q4⟩:=qB (K:=mg.K) (dn.mono stp);cases e;exact⟨ws,q3,q4⟩ | lst ys=>
  cases h;obtain⟨a,vs,rfl,q1,q2⟩:=zQ (d:=.lst xs) r rfl dn;refine⟨(by intro p hp;simp at hp),true,a,rfl,λH2 Y2 s2 stp _=>?_⟩;obtain⟨a',ws,e,q3,q4⟩:=zQ (d:=.lst xs) stp.rep rfl (dn.mono stp);cases e;exact⟨ws,.inl q3,q4⟩ | loc l=>
  simp only[zb5,_A]at h;obtain⟨ys,ey,e2⟩:=h;cases e2;obtain⟨a,vs,rfl,q1,q2⟩:=zQ (d:=.loc l) r ey dn;have og:okG [(l,xs)] [] s:=λp hp=>by
   have:p=(l,xs):=by simpa using hp
   subst this;exact ey
  refine⟨og,true,a,rfl,λH2 Y2 s2 stp hg=>?_⟩;obtain⟨a',ws,e,q3,q4⟩:=zQ (d:=.loc l) stp.rep (hg (l,xs) (by simp)) (dn.mono stp);cases e;exact⟨ws,.inl q3,q4⟩ | _=>cases h
noncomputable def zbh(f:FA):FI:=fun ρ s=>(f ρ s).bind λds s1=>match ds with
 | [x,y]=>match zb5 s1 x,zb5 s1 y with
  | some p,some q=>.ok (z3i p.1 q.1,p.2++q.2) s1 | _,_=>.no
 | _=>.no
theorem zbD{p tp:Pos}{elts:List Expr}{kt:Nat}{f:FA}(hg:Gl X "zip")(hm:X.mg "zip"=none)(ha:RA X E [a,b] f)(hs:starEach [a,b] X.env=(false,eval a X.env)::starEach [b] X.env:=by rfl)(hpl:(backTo pos (starEach [b] X.env)).any (·.1)=false:=by rfl): RI X E (.Tuple elts kt tp) (.Call (.Name "zip" p) [a,b] [] pos) (zbh f):= z3p (zfc hg hm ha hs hpl) λO H Q ⟨Y,ρ,s,r,en,h⟩=>by
  unfold zbh at h;refine⟨Y,ρ,s,r,en,(okR.bind (Dn:=zq (gm X)) h).imp λvs H1 ⟨Y1,s1,ds,stp,dn,h1⟩=>?_⟩;split at h1
  ·rename_i x y;split at h1
   ·rename_i p q ex ey;obtain⟨xs,gx⟩:=p;obtain⟨ys,gy⟩:=q;obtain⟨v,v',rfl,d1,d2⟩:=z4B dn;obtain⟨og1,b1,a1,rfl,k1⟩:=z82 stp.rep ex d1;obtain⟨og2,b2,a2,rfl,k2⟩:=z82 stp.rep ey d2;obtain⟨w1,q1,_⟩:=k1 H1 Y1 s1 (.refl stp.rep) og1;obtain⟨w2,q2,_⟩:=k2 H1 Y1 s1 (.refl stp.rep) og2;refine⟨a1,a2,b1,b2,rfl,⟨w1,q1⟩,⟨w2,q2⟩,h1.here stp.rep λH2 Y2 s2 stp2 og i=>?_⟩;have h3:okG gx [] s2:=λp hp=>og p (_aY _ hp);have h4:okG gy [] s2:=λp hp=>og p (_x _ hp);refine⟨λd hd=>?_,λhl=>?_⟩
    ·obtain⟨x,y,e1,e2,rfl⟩:=z7c hd;obtain⟨w1,q1,n1⟩:=k1 H2 Y2 s2 stp2 h3;obtain⟨w2,q2,n2⟩:=k2 H2 Y2 s2 stp2 h4;obtain⟨u1,g1,m1⟩:=n1.get e1;obtain⟨u2,g2,m2⟩:=n2.get e2;refine⟨⟨w1,w2,u1,u2,q1,q2,g1,g2⟩,λz H' ⟨T,p,q,hT,ez,eH,hp,hq⟩=>?_⟩;subst ez eH;have e3:=hp w1 q1;have e4:=hq w2 q2;rw[g1]at e3;rw[g2]at e4;cases e3;cases e4;have st3:=yw.lay (o:=.tup [u1,u2]) stp2.rep hT (by intro _ z;cases z);refine⟨Y2,st3,?_⟩;simp only[Den];exact⟨T,[u1,u2],rfl,zu,(zq.cons m1 (zq.one m2)).mono st3⟩
    ·obtain⟨w1,q1,n1⟩:=k1 H2 Y2 s2 stp2 h3;obtain⟨w2,q2,n2⟩:=k2 H2 Y2 s2 stp2 h4;refine⟨w1,w2,q1,q2,?_⟩;rw[n1.length,n2.length];simp only[z15]at hl;omega
   ·exact h1.elim
  ·exact h1.elim
end
noncomputable def zW(mp:List (Option Nat))(ρ:Ev):Ev:=mp.map λo=>match o with | some j=>(ρ[j]?).getD none | none=>none
theorem vF.inner{mg:Gm}{H:Hp}{Y:List Addr}{ρ:Ev}{O:L2.St}{mp:List (Option Nat)}(en:vF mg H Y ρ O):vF mg H Y (zW mp ρ) (inner mp O):=by
 refine⟨by simp[zW,L2.inner],λi d h=>?_⟩;simp only[zW,_R,_A]at h;obtain⟨o,h1,h2⟩:=h;cases o with
 | none=>cases h2 | some j=>
  simp only at h2;have h3:ρ[j]? = some (some d):=by cases e:ρ[j]? with
   | none=>rw[e]at h2;cases h2 | some x=>rw[e]at h2;simp at h2;rw[h2]
  obtain⟨v,h4,h5⟩:=en.at_ j d h3;exact⟨v,by simp[L2.inner,h1,h4],h5⟩
open Classical in
noncomputable def xM(g:List (Nat×List D))(all:List D)(body:D->Sto->R (Option D)):List D->List D->Sto->R (List D)
 | [],acc,s=>if okG g all s then .ok acc s else .no | x::xs,acc,s=>if okG g all s then (body x s).bind λo s1=>match o with
   | some d=>if acc.length<cap then xM g all body xs (acc++[d]) s1 else .no | none=>xM g all body xs acc s1 else .no
def z3l(fi:FI)(mp:List (Option Nat))(fg:FG)(ft:FT)(fe:FE):FA:=fun ρ s=>(fi ρ s).bind λit s1=>xM it.2 it.1 (λd s=>(fg d (zW mp ρ) s).bind fun ρ' s'=>(ft ρ' s').bind λb s2=>if b=true then (fe ρ' s2).bind λd s3=>.ok (some d) s3 else .ok none s2) it.1 [] s1
def z2E(mg:Gm)(E:XK)(mp:List (Option Nat))(g:TG)(fg:FG):Prop:=∀(O:L2.St) H Y ρ s x d (Q:L2.St->Hp->Prop),Rep mg H Y s->vF mg H Y (zW mp ρ) (inner mp O)->Den mg H Y d x->okR mg E H Y (vF mg) (fg d (zW mp ρ) s) Q-> g x (inner mp O) H (λO2 H2=>(O2.length=(inner mp O).length/\∀(i:Nat) v,(inner mp O)[i]? = some (some v)->O2[i]? = some (some v))/\Q O2 H2)
theorem z0V{mp:List (Option Nat)}{i:Nat}(h:mp[i]? = some none)(O:L2.St):(inner mp O)[i]? = some none:=by simp[L2.inner,h]
theorem z2d{O:L2.St}{i:Nat}{v:V}(h:O[i]? = some none):(O.set i (some v)).length=O.length/\∀(j:Nat) u,O[j]? = some (some u)->(O.set i (some v))[j]? = some (some u):=by
 refine⟨by simp,λj u e=>?_⟩;have:i≠j:=λz=>by subst z;rw[h]at e;cases e
 rw[_I this];exact e
section
variable {X:Cx}{E:XK}{e a b c tg iter elt:Expr}{es:List Expr}{pos:Pos}{CX:CXT}{mp:List (Option Nat)}
theorem xy(i:Nat)(h:mp[i]? = some none):z2E (gm X) E mp (kY i) (xK i):=λO H Y ρ s x d Q r en dn ok=>by
 refine⟨z2d (z0V h O),?_⟩;exact okR.here (b:=(inner mp O).set i (some x)) ok r (en.set dn i)
theorem z3a{fi:FI}{g:TG}{fg:FG}{ft:FT}{fe:FE}{O:L2.St}{H:Hp}{Q:VK}{Y:List Addr}{ρ:Ev}{s:Sto}{β:Type}{kR:List D->Sto->R β}{β2:Type}{Dn:Hp->List Addr->β->β2->Prop}{Q2:β2->Hp->Prop}(hg:z2E (gm X) E mp g fg)(r:Rep (gm X) H Y s)(en:vF (gm X) H Y ρ O) (h:okR (gm X) E H Y Dn ((z3l fi mp fg ft fe ρ s).bind kR) Q2) (fin:∀H1 Y1 s1 xs vs,Rep (gm X) H1 Y1 s1->vF (gm X) H1 Y1 ρ O->zq (gm X) H1 Y1 xs vs->okR (gm X) E H1 Y1 Dn (kR xs s1) Q2->xs.length<=cap->∀p,H1 p=none->Q (.ref p) (upd H1 p (.lst vs))): zaA (tI (gm X) E fi) mp g (tT (gm X) E ft) (tE (gm X) E fe) O H Q:=by
 unfold z3l at h;have assoc:∀{α γ δ:Type}(x:R α)(f:α->Sto->R γ)(k:γ->Sto->R δ),(x.bind f).bind k=x.bind λa s=>(f a s).bind k:=λx f k=>by cases x<;>rfl
 rw[assoc]at h;refine⟨Y,ρ,s,r,en,(okR.bind (Dn:=z97 (gm X)) h).imp λJ H1 ⟨Y1,s1,it,stp,ok,h1⟩=>?_⟩;obtain⟨items,gd⟩:=it;simp only at h1;refine⟨λi m ys H=>∃Y s acc,yw (gm X) H1 Y1 H Y s/\zq (gm X) H Y acc ys/\acc.length<=cap/\m=items.length-i/\i<=items.length/\ okR (gm X) E H Y Dn ((xM gd items (λd s=>(fg d (zW mp ρ) s).bind fun ρ' s'=>(ft ρ' s').bind λb s2=>if b=true then (fe ρ' s2).bind λd s3=>.ok (some d) s3 else .ok none s2) (items.drop i) acc s).bind kR) Q2, ⟨items.length,Y1,s1,[],.refl stp.rep,zq.nil,_aZ _,by simp,_aZ _,by simpa using h1⟩,?_⟩;rintro i m ys H2 ⟨Y2,s2,acc,stp2,dn2,hcap,rfl,hil,h2⟩;have en2:vF (gm X) H2 Y2 ρ O:=(en.mono stp).mono stp2;by_cases hlt:i<items.length
 ·right;rw[_aT hlt,xM]at h2;split at h2
  ·rename_i hG;obtain⟨go,yl⟩:=((ok H2 Y2 s2 stp2 hG i).1 items[i] (_n hlt));refine⟨go,λx H' y=>?_⟩;obtain⟨Y3,stp3,dn3⟩:=yl x H' y;have h3:=okR.rebase h2 stp3;rw[assoc,assoc]at h3;have h4:=okR.bind (Dn:=vF (gm X)) h3;refine hg O H' Y3 ρ s2 x items[i] _ stp3.rep ((en2.mono stp3).inner) dn3 (h4.imp λO4 H4 ⟨Y4,s4,ρ4,stp4,en4,h5⟩=>?_);rw[assoc]at h5;refine⟨Y4,ρ4,s4,stp4.rep,en4,(okR.bind (Dn:=bD) h5).imp λbb H5 ⟨Y5,s5,b',stp5,eb,h6⟩=>?_⟩;cases (show b'=bb from eb);have all5:yw (gm X) H1 Y1 H5 Y5 s5:=((stp2.trans stp3).trans stp4).trans stp5;cases bb with
   | true=>
    rw[_g rfl]at h6 ⊢;rw[assoc]at h6;refine⟨Y5,ρ4,s5,stp5.rep,en4.mono stp5,(okR.bind (Dn:=Den (gm X)) h6).imp λy H6 ⟨Y6,s6,d6,stp6,dn6,h7⟩=>?_⟩;simp only[Rb]at h7;split at h7
    ·rename_i hc;have all6:=all5.trans stp6;have dny:zq (gm X) H6 Y6 acc ys:=(((dn2.mono stp3).mono stp4).mono stp5).mono stp6;refine⟨by rw[dn2.length];exact uJ hcap,items.length-(i+1),by omega,Y6,s6,acc++[d6],all6,dny.append (zq.one dn6),by simp;omega,rfl,hlt,h7⟩
    ·exact h7.elim | false=>
    rw[_j (by decide)]at h6 ⊢;simp only[Rb]at h6;exact⟨items.length-(i+1),by omega,Y5,s5,acc,all5,((dn2.mono stp3).mono stp4).mono stp5,hcap,rfl,hlt,h6⟩
  ·exact h2.elim
 ·left;have e:i=items.length:=by omega
  subst e;rw[_cl,xM]at h2;split at h2
  ·rename_i hG;simp only[Rb]at h2;exact⟨(ok H2 Y2 s2 stp2 hG _).2 (_f _),by rw[dn2.length];exact uJ hcap,fin H2 Y2 s2 acc ys stp2.rep en2 dn2 h2 hcap⟩
  ·exact h2.elim
def zX(fi:FI)(mp:List (Option Nat))(fg:FG)(ft:FT)(fe:FE):FE:=fun ρ s=>(z3l fi mp fg ft fe ρ s).bind λxs s1=>.ok (.lst xs) s1
def z1M(fi:FI)(mp:List (Option Nat))(fg:FG)(ft:FT)(fe:FE):FE:=fun ρ s=>(z3l fi mp fg ft fe ρ s).bind λxs s1=>if D.flat.flats xs=true then .ok (.loc s1.length) (s1++[xs]) else .no
noncomputable def xJ:FT:=λ_ s=>.ok true s
theorem wt{Yy:Cx}:z5m Yy [] (tT (gm Yy) E xJ):=λpins s O H Q I ⟨Y,ρ,st,r,en,h⟩=>zas pins s O H Q I (h.here (b:=true) r rfl)
theorem z4F{Yy:Cx}{f:FT}(h:RT Yy E c f):z5m Yy [c] (tT (gm Yy) E f):=zaB h
section
variable {scope:Scope}{ifs:List Expr}{fi:FI}{fg:FG}{ft:FT}{fe:FE}{g:TG}{spos py:Pos}
theorem zdu(N':List Str)(mp:List (Option Nat))(hc:X.calm=true)(hi:RI X E tg iter fi)(hg:∀ex s H,PG (zp X N' scope ex s H) tg g)(hgt:z2E (gm X) E mp g fg)(ht:∀ex s H,z5m (zp X N' scope ex s H) ifs (tT (gm X) E ft))(he:∀ex s H,RE (zp X N' scope ex s H) E elt fe) (hkd:scope.kind=.function)(hnm:∀y∈scope.names,scope.names.lookup y.1=some y.2) (hfr:∀y∈scope.names,y.2=.free->X.env.kindOf y.1=some .cell\/X.env.kindOf y.1=some .free)(hmp:z0s X.N scope.names N' mp=true) (hs:∀x,foldedSetIterable iter X.env x=pure x:=by intro _;rfl):RE X E (.ListComp elt [⟨tg,iter,ifs,0⟩] scope pos) (zX fi mp fg ft fe):= yh (zce (te:=tE (gm X) E fe) N' mp hc hi hg ht (λex s H=>he ex s H) hkd hnm hfr hmp hs).freeze λO H Q ⟨Y,ρ,s,r,en,h⟩=> z3a hgt r en h λH1 Y1 s1 xs vs r1 en1 dn h1 hcap=>qM r1 h1 dn
theorem z69 {i:Nat} {y:Str} (N':List Str) (mp:List (Option Nat)) (hN:X.N.Nodup) (hc:X.calm=true) (hi:RI X E tg iter fi) (hg:∀ex s H,PG (zp X N' scope ex s H) tg g) (hgt:z2E (gm X) E mp g fg) (ht:∀ex s H,z5m (zp X N' scope ex s H) ifs (tT (gm X) E ft)) (he:∀ex s H,RE (zp X N' scope ex s H) E elt fe) (hkd:scope.kind=.function) (hnm:∀y∈scope.names,scope.names.lookup y.1=some y.2) (hfr:∀y∈scope.names,y.2=.free->X.env.kindOf y.1=some .cell\/X.env.kindOf y.1=some .free) (hmp:z0s X.N scope.names N' mp=true) (hy:X.N[i]? = some y:=by rfl) (hyl:Loc X.env.scope y:=by first | exact Or.inl rfl | exact Or.inr rfl) (hs:∀x,foldedSetIterable iter X.env x=pure x:=by intro _;rfl) (hsw:swapsWith (.ListComp elt [⟨tg,iter,ifs,0⟩] scope pos) (some (.Name y py)) spos.line X.env=pure true:=by rfl) (hf:X.fn y=true\/X.env.scope.names.lookup y=some .local:=by first | exact .inl rfl | exact .inr rfl | assumption): RS X E (.Assign [.Name y py] (.ListComp elt [⟨tg,iter,ifs,0⟩] scope pos) spos) (vP i (zX fi mp fg ft fe)):= vy (z4K (te:=tE (gm X) E fe) N' mp hN hy hyl hc hi hg ht (λex s H=>he ex s H) hkd hnm hfr hmp hs hsw hf) λD O H ⟨Y,ρ,s,r,en,h⟩=>by
  have assoc:∀{α γ δ:Type} (x:R α) (f:α->Sto->R γ) (k:γ->Sto->R δ),(x.bind f).bind k=x.bind λa s=>(f a s).bind k:=λx f k=>by cases x<;>rfl
  unfold vP zX at h;rw[assoc]at h;refine z3a hgt r en h λH1 Y1 s1 xs vs r1 en1 dn h1 hcap p hp=>?_;refine qM (E:=E) (mg:=gm X) (xs:=xs) r1 (λv H2 Y2 stp dn2=>?_) dn p hp;exact h1 (.nx (O.set i (some v))) H2 Y2 stp ((en1.mono stp).set dn2 i)
theorem z6G{i:Nat}{y:Str}(N':List Str)(mp:List (Option Nat))(hN:X.N.Nodup)(hc:X.calm=true)(hi:RI X E tg iter fi)(hg:∀ex s H,PG (zp X N' scope ex s H) tg g)(hgt:z2E (gm X) E mp g fg)(ht:∀ex s H,z5m (zp X N' scope ex s H) ifs (tT (gm X) E ft))(he:∀ex s H,RE (zp X N' scope ex s H) E elt fe) (hkd:scope.kind=.function)(hnm:∀y∈scope.names,scope.names.lookup y.1=some y.2) (hfr:∀y∈scope.names,y.2=.free->X.env.kindOf y.1=some .cell\/X.env.kindOf y.1=some .free)(hmp:z0s X.N scope.names N' mp=true)(hy:X.N[i]? = some y:=by rfl)(hyl:Loc X.env.scope y:=by first | exact Or.inl rfl | exact Or.inr rfl) (hs:∀x,foldedSetIterable iter X.env x=pure x:=by intro _;rfl) (hsw:swapsWith (.ListComp elt [⟨tg,iter,ifs,0⟩] scope pos) (some (.Name y py)) spos.line X.env=pure true:=by rfl) (hf:X.fn y=true\/X.env.scope.names.lookup y=some .local:=by first | exact .inl rfl | exact .inr rfl | assumption): RS X E (.Assign [.Name y py] (.ListComp elt [⟨tg,iter,ifs,0⟩] scope pos) spos) (vP i (z1M fi mp fg ft fe)):= vy (z6C (te:=tE (gm X) E fe) N' mp hN hy hyl hc hi hg ht (λex s H=>he ex s H) hkd hnm hfr hmp hs hsw hf) λD O H ⟨Y,ρ,s,r,en,h⟩=>by
  have assoc:∀{α γ δ:Type}(x:R α)(f:α->Sto->R γ)(k:γ->Sto->R δ),(x.bind f).bind k=x.bind λa s=>(f a s).bind k:=λx f k=>by cases x<;>rfl
  unfold vP z1M at h;rw[assoc]at h;refine z3a hgt r en h λH1 Y1 s1 xs vs r1 en1 dn h1 hcap p hp=>?_;split at h1
  ·rename_i hf;have stp:=yw.layL (p:=p) r1 hp dn hf;refine h1 (.nx (O.set i (some (.ref p)))) _ _ stp ((en1.mono stp).set ?_ i);simp only[Den];exact⟨p,rfl,by rw[<- r1.len];simp,vs,zu⟩
  ·exact h1.elim
end
end
section
variable {X:Cx}{E:XK}{e a b c tg iter elt:Expr}{es:List Expr}{pos:Pos}{CX:CXT}{mp:List (Option Nat)}
def zbn(K:W.Frag)(i j:Nat):TG:=zh4 K 2 (zcl (kY i) (zcl (kY j) zgR))
theorem z2W(i j:Nat){x y:Str}{px py:Pos}{kt:Nat}(hc:X.calm=true)(hN:X.N.Nodup)(hi:X.N[i]? = some x:=by rfl)(hj:X.N[j]? = some y:=by rfl)(hx:Loc X.env.scope x:=by first | exact Or.inl rfl | exact Or.inr rfl)(hy:Loc X.env.scope y:=by first | exact Or.inl rfl | exact Or.inr rfl) (hf:X.fn x=true\/X.env.scope.names.lookup x=some .local:=by first | exact .inl rfl | exact .inr rfl | assumption)(hf':X.fn y=true\/X.env.scope.names.lookup y=some .local:=by first | exact .inl rfl | exact .inr rfl | assumption): PG X (.Tuple [.Name x px,.Name y py] kt pos) (zbn X.K i j):=zbg hc (z0q (yE hN hi hx hf) (z0q (yE hN hj hy hf') z8A))
theorem z2a(i j:Nat)(hij:i≠j)(h:mp[i]? = some none)(h':mp[j]? = some none):z2E (gm X) E mp (zbn X.K i j) (z13 i j):=λO H Y ρ s x d Q r en dn ok=>by
 unfold z13 at ok;split at ok
 ·rename_i d1 d2;obtain⟨p,vs,rfl,q1,q2⟩:=qB (K:=X.K) dn;obtain⟨v1,v2,rfl,e1,e2⟩:=z4B q2;have k1:=z2d (v:=v1) (z0V h O);have own2:((inner mp O).set i (some v1))[j]? = some none:=by rw[_I hij];exact z0V h' O
  have k2:=z2d (v:=v2) own2;exact⟨p,[v1,v2],rfl,q1,rfl,v1,[v2],rfl,v2,[],rfl,rfl,⟨k2.1.trans k1.1,λl u e=>k2.2 l u (k1.2 l u e)⟩,okR.here ok r ((en.set e1 i).set e2 j)⟩
 ·exact ok.elim
end
noncomputable def zK(N:List Str)(ds:List D):Ev:=ds.map some++List.replicate (N.length-ds.length) none
theorem z1Y{mg:Gm}{H:Hp}{Y:List Addr}{N:List Str}:∀{ds:List D}{vs:List V},zq mg H Y ds vs->vF mg H Y (zK N ds) (L2.start N vs):=λ{ds vs} h=>by
 have hl:=h.length;refine⟨by simp[zK,L2.start,hl],λi d e=>?_⟩;unfold zK at e;have hi:i<ds.length:=by
  by_cases hi:i<ds.length;·exact hi
  ·rw[_Q (by simpa using hi),List.getElem?_replicate]at e;split at e<;>cases e
 rw[_u (by simpa using hi),_R]at e;have e':ds[i]? = some d:=by cases q:ds[i]? with
  | none=>rw[q]at e;cases e | some x=>rw[q]at e;simp at e;rw[e]
 obtain⟨v,h1,h2⟩:=h.get e';refine⟨v,?_,h2⟩;unfold L2.start;rw[_u (by simpa[hl] using hi),_R,h1];rfl
noncomputable def Mof(N:List Str)(n:Nat)(fs:FS):Mir:=λds s=>if ds.length=n then (match fs (zK N ds) s with
 | .ok (.rt d) s'=>.ok d s' | .ok (.nx _) s'=>.ok .non s' | _=>.no) else .no
section
variable {P:Program}{w:World}{K:W.Frag}{mg:Str->Option Value}{base:Heap}
theorem Has.mono{CX:CXT}{x:Str}{n m:Nat}{M:Mir}(h:Has P w K mg base CX x n M)(hl:n<=m):Has P w K mg base CX x m M:=by
 obtain⟨f,fd,ps,F,r⟩:=h;exact⟨f,fd,ps,F.mono hl,r⟩
theorem yp{x qual:Str}{st:Stmt}{f:Addr}{fd:FuncData}{N ps:List Str}{k n:Nat}{fs:FS}(F:Fun K x qual st f fd)(hm:mg x=some (.ref f))(hb:Binds K fd ps [])(S:zG N ps (zo st))(hn:ps.length=n) (body:∀(cdv:Value)(A:Around)(outer:List Env)(s:Shared)(H:Hp)(E:XK),z1v k (A.deeper (envOfC qual (zo st) s.heap.objs.size f cdv))->(z95 CX0 P w K mg base N qual (zo st) f cdv A outer s H E).nox.calm=true-> RSs (z95 CX0 P w K mg base N qual (zo st) f cdv A outer s H E).nox E0 (uC st) fs):Has P w K mg base CX0 x (k+1) (Mof N n fs):=by
 subst hn;refine⟨f,fd,ps,F.ok S (λvs H Q E h=>?_) (λcdv A outer s H vs Q E hr h=>?_),hb,F.kp,hm⟩
 ·obtain⟨Y,s,ds,_,dn,h⟩:=h;unfold Mof at h;split at h;·rename_i e;rw[dn.length];exact e
  ·exact h.elim
 ·obtain⟨Y,st0,ds,r,dn,h⟩:=h;refine⟨_,body cdv A outer s H E hr (by show A.handled.isNone=true;rw[show A.handled=none from hr.hd];rfl),Y,zK N ds,st0,r,z1Y dn,?_⟩;unfold Mof at h;split at h
  ·split at h
   ·rename_i d s' e;rw[e];intro fv H' Y' stp fd;cases fv with
    | rt v=>exact h v H' Y' stp fd | _=>exact (show False from fd).elim
   ·rename_i ρ s' e;rw[e];intro fv H' Y' stp fd;cases fv with
    | nx v=>exact h .non H' Y' stp (by simp[Den]) | _=>exact (show False from fd).elim
   ·exact h.elim
  ·exact h.elim
theorem zf2{x qual:Str}{st:Stmt}{f:Addr}{fd:FuncData}{ps:List Str}(F:Fun K x qual st f fd)(hm:mg x=some (.ref f))(hb:Binds K fd ps []):Has P w K mg base CX0 x 0 (λ_ _=>.no):= ⟨f,fd,ps,⟨λvs H Q E h=>by obtain⟨_,_,_,_,_,h⟩:=h;exact h.elim,λA outer s H args us vs Q E _ _ _ _ h=>by obtain⟨_,_,_,_,_,h⟩:=h;exact h.elim⟩,hb,F.kp,hm⟩
end
def zcv(K:W.Frag):Sp:=λvs H Q _=>∃(a:Addr)(ns:List Int),vs=[.ref a]/\zgt H/\SqL K H a (ns.map V.int)/\ns.length<=63/\∀H',Q (.bl true) H'
theorem wI{mg:Gm}{H:Hp}{Y:List Addr}:∀(ns:List Int),zq mg H Y (ns.map D.int) (ns.map V.int)
 | []=>zq.nil | n::ns=>zq.cons yW (wI ns)
theorem zfe{P:Program}{w:World}{K:W.Frag}{mg:Str->Option Value}{base:Heap}{x:Str}{n:Nat}{M:Mir}{f:Addr}{fd:FuncData}{ps:List Str}(F:z3h P w K mg base CX0 n f fd ps (zde ⟨mg,K⟩ M)) (h:∀ns:List Int,ns.length<=63->∃s',M [.scr (ns.map D.int)] []=.ok (.bl true) s'):z3h P w K mg base CX0 n f fd ps (zcv K):= F.imp λvs H Q E ⟨a,ns,e,ho,hq,hl,q⟩=>by
  subst e;obtain⟨s',hs⟩:=h ns hl;refine⟨[],[],[.scr (ns.map D.int)],⟨rfl,List.nodup_nil,λl xs z=>by simp at z,λxs z=>by simp at z,λb h z=>by simp at z,λa ha=>by simp at ha⟩,zq.one ?_,?_⟩
  ·simp only[Den];refine⟨a,ns.map V.int,rfl,?_,wI ns⟩;rcases hq with (z | z) | z
   ·rcases ho a with y | ⟨o,xs,y⟩;·rw[y]at z;cases z
    ·rw[y]at z;cases z
   ·exact .inl z
   ·exact .inr z
  ·rw[hs];intro v H' Y' stp dn;cases jv dn;exact q H'
section
variable {X:Cx}{E:XK}{e a b c tg iter elt:Expr}{es:List Expr}{pos:Pos}{CX:CXT}
noncomputable def z5c(f:FE):FE:=fun ρ s=>(f ρ s).bind λd s1=>match d with | .int i=>.ok (.int (-i)) s1 | _=>.no
theorem z6d{f:FE}(h:RE X E a f):RE X E (.UnaryOp .USub a pos) (z5c f):= yh (zeW zaW h) λO H Q ⟨Y,ρ,s,r,en,h⟩=>by
  refine yd (k:=fun ρ d s1=>match d with | .int i=>R.ok (D.int (-i)) s1 | _=>.no) r en h _ λv H1 Y1 s1 d r1 en1 dn stp h1=>?_;cases d with
  | int i=>
   cases yb dn;exact⟨i,rfl,okR.here (b:=V.int (-i)) h1 r1 yW⟩ | _=>exact h1.elim
theorem zcm{op op':CmpOp}{fo fo':D->D->Sto->R D}{fa fb fc:FE}(ho:∃r,OpR X (compareOp op) r/\OpF X E r fo)(ho':∃r,OpR X (compareOp op') r/\OpF X E r fo')(ha:RE X E a fa)(hb:RE X E b fb)(hc:RE X E c fc) (hm:lastMarks [op,op'] [b,c]=false:=by with_unfolding_all rfl):RT X E (.Compare a [op,op'] [b,c] pos) (tOf (z26 fo fo' fa fb fc)):=by
 obtain⟨r,h1,h2⟩:=ho;obtain⟨r',h1',h2'⟩:=ho';exact z5R (zaf h1 h1' ha hb hc hm) λO H Q h=>by
  have q:=z29 h;exact z3T h2 h2' q
noncomputable def jY(i:Int)(n:Nat):List D:=(List.range n).map λ(k:Nat)=>D.int (i+((k:Nat):Int))
noncomputable def z7F(f:FA):FI:=fun ρ s=>(f ρ s).bind λds s1=>match ds with
 | [.int i,.int j]=>if -(2 ^ 62)<=i/\i<2 ^ 62/\-(2 ^ 62)<=j/\j<2 ^ 62 then .ok (jY i (j-i).toNat,[]) s1 else .no | _=>.no
theorem z9K{p:Pos}{f:FA}(hg:Gl X "range")(hm:X.mg "range"=none)(ha:RA X E [a,b] f)(hs:starEach [a,b] X.env=[(false,eval a X.env),(false,eval b X.env)]:=by rfl)(hs2:starEach [b] X.env=[(false,eval b X.env)]:=by rfl):RI X E tg (.Call (.Name "range" p) [a,b] [] pos) (z7F f):= z3p (z7P hg hm ha hs hs2) λO H Q ⟨Y,ρ,s,r,en,h⟩=>by
  unfold z7F at h;refine⟨Y,ρ,s,r,en,(okR.bind (Dn:=zq (gm X)) h).imp λvs H1 ⟨Y1,s1,ds,stp,dn,h1⟩=>?_⟩;split at h1
  ·rename_i i j;split at h1
   ·rename_i hj;obtain⟨v,v',rfl,d1,d2⟩:=z4B dn;cases yb d1;cases yb d2;refine⟨i,j,rfl,hj,h1.here stp.rep λH2 Y2 s2 stp2 _ k=>⟨λd hd=>?_,λhl=>?_⟩⟩
    ·have hi:k<(j-i).toNat:=by
      have:=(_b.mp hd).1;simpa[jY] using this
     refine⟨hi,λx H' ⟨e1,e2⟩=>?_⟩;subst e1 e2;refine⟨Y2,.refl stp2.rep,?_⟩;have e3:d=D.int (i+k):=by
      simp only[jY,_R,_cJ hi,_a6,_D]at hd;exact hd.symm
     rw[e3];exact yW
    ·have:(jY i (j-i).toNat).length=(j-i).toNat:=by simp[jY]
     show (j-i).toNat<=k;rw[<- this];exact hl
   ·exact h1.elim
  ·exact h1.elim
end
noncomputable def isK(o:Option NameKind)(k:NameKind):Bool:=match o,k with
 | some .local,.local=>true | some .cell,.cell=>true | some .free,.free=>true | some .globalImplicit,.globalImplicit=>true | _,_=>false
theorem z89{o:Option NameKind}{k:NameKind}(h:isK o k=true):o=some k:=by cases o with
 | none=>cases k<;>simp[isK]at h | some j=>cases j<;>cases k<;>first | rfl | simp[isK]at h
noncomputable def isF(k:NameKind):Bool:=match k with | .free=>true | _=>false
theorem zdT{k:NameKind}(h:k=.free):isF k=true:=by subst h;rfl
noncomputable def z8E(ko:Str->Option NameKind)(names:List (Str×NameKind)):Bool:=names.all λy=>!isF y.2||(isK (ko y.1) .cell||isK (ko y.1) .free)
theorem z0k{ko:Str->Option NameKind}{names:List (Str×NameKind)}(h:z8E ko names=true):∀y∈names,y.2=.free->ko y.1=some .cell\/ko y.1=some .free:=λy hy hf=>by
 have:=_ag.mp h y hy;rw[zdT hf]at this;simp only[_bn,Bool.false_or,Bool.or_eq_true]at this;exact this.imp z89 z89
noncomputable def z7l(names:List (Str×NameKind)):Bool:=names.all λy=>isK (names.lookup y.1) y.2
theorem z0o{names:List (Str×NameKind)}(h:z7l names=true):∀y∈names,names.lookup y.1=some y.2:=λy hy=>by
 have:=_ag.mp h y hy;exact z89 this
section
variable {X:Cx}{E:XK}{e a b c tg iter elt:Expr}{es:List Expr}{pos:Pos}{CX:CXT}
variable {scope:Scope}{ifs:List Expr}{fi:FI}{fg:FG}{ft:FT}{fe:FE}{g:TG}{spos py:Pos}
theorem zfx{x:Str}{i:Int}(hg:Gl X x)(hm:∃t,X.mg x=some (.int i t))(hd:(x==("__debug__":Str))=false:=by decide):RE X E (.Name x pos) (eC (.int i)):=let ⟨_,h⟩:=hm;zeF hg h hd
theorem wc(N':List Str)(mp:List (Option Nat))(hc:X.calm=true)(hi:RI X E tg iter fi)(hg:∀ex s H,PG (zp X N' scope ex s H) tg g)(hgt:z2E (gm X) E mp g fg)(ht:∀ex s H,z5m (zp X N' scope ex s H) ifs (tT (gm X) E ft))(he:∀ex s H,RE (zp X N' scope ex s H) E elt fe) (hkd:scope.kind=.function:=by rfl)(hnm:z7l scope.names=true:=by rfl)(hfr:z8E X.env.kindOf scope.names=true:=by rfl)(hmp:z0s X.N scope.names N' mp=true:=by rfl) (hs:∀x,foldedSetIterable iter X.env x=pure x:=by intro _;rfl):RE X E (.ListComp elt [⟨tg,iter,ifs,0⟩] scope pos) (zX fi mp fg ft fe):= zdu N' mp hc hi hg hgt ht he hkd (z0o hnm) (z0k hfr) hmp hs
theorem zbS(i:Nat){y:Str}(N':List Str)(mp:List (Option Nat))(hN:X.N.Nodup)(hc:X.calm=true)(hi:RI X E tg iter fi)(hg:∀ex s H,PG (zp X N' scope ex s H) tg g)(hgt:z2E (gm X) E mp g fg)(ht:∀ex s H,z5m (zp X N' scope ex s H) ifs (tT (gm X) E ft))(he:∀ex s H,RE (zp X N' scope ex s H) E elt fe) (hkd:scope.kind=.function:=by rfl)(hnm:z7l scope.names=true:=by rfl)(hfr:z8E X.env.kindOf scope.names=true:=by rfl)(hmp:z0s X.N scope.names N' mp=true:=by rfl)(hy:X.N[i]? = some y:=by rfl)(hyl:Loc X.env.scope y:=by first | exact Or.inl rfl | exact Or.inr rfl) (hs:∀x,foldedSetIterable iter X.env x=pure x:=by intro _;rfl) (hsw:swapsWith (.ListComp elt [⟨tg,iter,ifs,0⟩] scope pos) (some (.Name y py)) spos.line X.env=pure true:=by rfl) (hf:X.fn y=true\/X.env.scope.names.lookup y=some .local:=by first | exact .inl rfl | exact .inr rfl | assumption): RS X E (.Assign [.Name y py] (.ListComp elt [⟨tg,iter,ifs,0⟩] scope pos) spos) (vP i (zX fi mp fg ft fe)):= z69 N' mp hN hc hi hg hgt ht he hkd (z0o hnm) (z0k hfr) hmp hy hyl hs hsw hf
theorem zcJ(i:Nat){y:Str}(N':List Str)(mp:List (Option Nat))(hN:X.N.Nodup)(hc:X.calm=true)(hi:RI X E tg iter fi)(hg:∀ex s H,PG (zp X N' scope ex s H) tg g)(hgt:z2E (gm X) E mp g fg)(ht:∀ex s H,z5m (zp X N' scope ex s H) ifs (tT (gm X) E ft))(he:∀ex s H,RE (zp X N' scope ex s H) E elt fe) (hkd:scope.kind=.function:=by rfl)(hnm:z7l scope.names=true:=by rfl)(hfr:z8E X.env.kindOf scope.names=true:=by rfl)(hmp:z0s X.N scope.names N' mp=true:=by rfl)(hy:X.N[i]? = some y:=by rfl)(hyl:Loc X.env.scope y:=by first | exact Or.inl rfl | exact Or.inr rfl) (hs:∀x,foldedSetIterable iter X.env x=pure x:=by intro _;rfl) (hsw:swapsWith (.ListComp elt [⟨tg,iter,ifs,0⟩] scope pos) (some (.Name y py)) spos.line X.env=pure true:=by rfl) (hf:X.fn y=true\/X.env.scope.names.lookup y=some .local:=by first | exact .inl rfl | exact .inr rfl | assumption): RS X E (.Assign [.Name y py] (.ListComp elt [⟨tg,iter,ifs,0⟩] scope pos) spos) (vP i (z1M fi mp fg ft fe)):= z6G N' mp hN hc hi hg hgt ht he hkd (z0o hnm) (z0k hfr) hmp hy hyl hs hsw hf
end
theorem ze1{P:Program}{w:World}{K:W.Frag}{mg:Str->Option Value}{base:Heap}{x qual:Str}{st:Stmt}{f:Addr}{fd:FuncData}{N ps:List Str}{k n:Nat}{fs:FS}(F:Fun K x qual st f fd)(S:zG N ps (zo st))(hn:ps.length=n) (body:∀(cdv:Value)(A:Around)(outer:List Env)(s:Shared)(H:Hp)(E:XK),z1v k (A.deeper (envOfC qual (zo st) s.heap.objs.size f cdv))->(z95 CX0 P w K mg base N qual (zo st) f cdv A outer s H E).nox.calm=true-> RSs (z95 CX0 P w K mg base N qual (zo st) f cdv A outer s H E).nox E0 (uC st) fs):z3h P w K mg base CX0 (k+1) f fd ps (zde ⟨mg,K⟩ (Mof N n fs)):=by
 subst hn;refine F.ok S (λvs H Q E h=>?_) (λcdv A outer s H vs Q E hr h=>?_)
 ·obtain⟨Y,s,ds,_,dn,h⟩:=h;unfold Mof at h;split at h;·rename_i e;rw[dn.length];exact e
  ·exact h.elim
 ·obtain⟨Y,st0,ds,r,dn,h⟩:=h;refine⟨_,body cdv A outer s H E hr (by show A.handled.isNone=true;rw[show A.handled=none from hr.hd];rfl),Y,zK N ds,st0,r,z1Y dn,?_⟩;unfold Mof at h;split at h
  ·split at h
   ·rename_i d s' e;rw[e];intro fv H' Y' stp fd;cases fv with
    | rt v=>exact h v H' Y' stp fd | _=>exact (show False from fd).elim
   ·rename_i ρ s' e;rw[e];intro fv H' Y' stp fd;cases fv with
    | nx v=>exact h .non H' Y' stp (by simp[Den]) | _=>exact (show False from fd).elim
   ·exact h.elim
  ·exact h.elim
section
variable {all xs:List D}{ρ:Ev}{s:Sto}
theorem ju{body:D->Ev->Sto->R Fl}(I:Ev->Sto->Prop):∀(xs:List D),(∀x∈xs,∀ ρ s,I ρ s->∃ ρ' s',body x ρ s=.ok (.nx ρ') s'/\I ρ' s')->∀ ρ s,I ρ s->∃ ρ' s',wK [] all body xs ρ s=.ok (.nx ρ') s'/\I ρ' s'
 | [],_,ρ,s,h=>⟨ρ,s,by simp[wK,okG],h⟩ | x::xs,hb,ρ,s,h=>by
  obtain⟨ρ1,s1,e1,h1⟩:=hb x (by simp) ρ s h;obtain⟨ρ2,s2,e2,h2⟩:=ju I xs (λy hy=>hb y (by simp[hy])) ρ1 s1 h1;exact⟨ρ2,s2,by simp[wK,okG,e1,e2],h2⟩
theorem z3F{body:D->Sto->R (Option D)}(f:D->D):∀(xs acc:List D),(∀x∈xs,body x s=.ok (some (f x)) s)->acc.length+xs.length<=cap->xM [] all body xs acc s=.ok (acc++xs.map f) s
 | [],acc,_,_=>by simp[xM,okG] | x::xs,acc,hb,hl=>by
  have ih:=z3F f xs (acc++[f x]) (λy hy=>hb y (by simp[hy])) (by simp at hl ⊢;omega);have hc:acc.length<cap:=by simp at hl;omega
  rw[xM];simp[okG,hb x (by simp),hc,ih]
end
section
variable (i j k n:Nat)(ρ:Ev)(s:Sto)(f g fa fb fc:FE)(d x y:D)(ds:List D)(ar:FA)(op op':D->D->Sto->R D)(ft ft':FT)(fs fs':FS)(M:Mir)(T:String)(fl fh fo:FO)(fi:FI)(fg:FG)(mp:List (Option Nat))(N:List Str)
@[simp] theorem zb3:zd i ρ s=(match ρ[i]? with | some (some d)=>.ok d s | _=>.no):=id rfl
@[simp] theorem z94:eC d ρ s=.ok d s:=id rfl
@[simp] theorem z3d:eOp op fa fb ρ s=(fa ρ s).bind λx s1=>(fb ρ s1).bind λy s2=>op x y s2:=id rfl
@[simp] theorem qw:ze M ar ρ s=(ar ρ s).bind λxs s1=>M xs s1:=id rfl
@[simp] theorem xk:zi ρ s=.ok [] s:=id rfl
@[simp] theorem zN:za f ar ρ s=(f ρ s).bind λx s1=>(ar ρ s1).bind λxs s2=>.ok (x::xs) s2:=id rfl
@[simp] theorem z1K:vA ar ρ s=(ar ρ s).bind λxs s1=>if xs.length<=cap then .ok (.tup xs) s1 else .no:=id rfl
@[simp] theorem z1Q:z04 ar ρ s=(ar ρ s).bind λxs s1=>if xs.length<=cap then .ok (.lst xs) s1 else .no:=id rfl
@[simp] theorem zbk:zdi ar ρ s=(ar ρ s).bind λxs s1=>if xs.length<=cap/\D.flat.flats xs=true then .ok (.loc s1.length) (s1++[xs]) else .no:=id rfl
@[simp] theorem zeD:eIs T f ρ s=(f ρ s).bind λd s1=>gIs T d s1:=id rfl
@[simp] theorem z3A:z5c f ρ s=(f ρ s).bind λd s1=>match d with | .int i=>.ok (.int (-i)) s1 | _=>.no:=id rfl
@[simp] theorem zgK:zfy f ρ s=(f ρ s).bind λx s1=>match x with | .bl k=>.ok (.bl (!k)) s1 | _=>.no:=id rfl
@[simp] theorem z1Z:z2I fa fb ρ s=(fa ρ s).bind λx s1=>match x with | .bl true=>fb ρ s1 | .bl false=>.ok (.bl false) s1 | _=>.no:=id rfl
@[simp] theorem z4o:eSl f fl fh ρ s=(f ρ s).bind λx s1=>(fl ρ s1).bind λlo s2=>(fh ρ s2).bind λhi s3=>dSl x lo hi s3:=id rfl
@[simp] theorem wH:yo ρ s=.ok none s:=id rfl
@[simp] theorem ql:vw f ρ s=(f ρ s).bind λd s1=>match d with | .int i=>.ok (some i) s1 | _=>.no:=id rfl
@[simp] theorem zfh:tOf f ρ s=(f ρ s).bind λd s1=>match d with | .bl k=>.ok k s1 | _=>.no:=id rfl
@[simp] theorem zco:fOr ft ft' ρ s=(ft ρ s).bind λx s1=>if x=true then .ok true s1 else ft' ρ s1:=id rfl
@[simp] theorem zbu:jl ft ρ s=(ft ρ s).bind λx s1=>.ok (!x) s1:=id rfl
@[simp] theorem zfq:z26 op op' fa fb fc ρ s=(fa ρ s).bind λx s1=>(fb ρ s1).bind λy s2=>(op x y s2).bind λz s3=>match z with
 | .bl true=>(fc ρ s3).bind λw s4=>op' y w s4 | .bl false=>.ok (.bl false) s3 | _=>.no:=id rfl
@[simp] theorem zgN:zZ fs fs' ρ s=(fs ρ s).bind λfl s1=>match fl with | .nx ρ'=>fs' ρ' s1 | fl=>.ok fl s1:=id rfl
@[simp] theorem zg6:wN ρ s=.ok (.nx ρ) s:=id rfl
@[simp] theorem zhy:fNo ρ s=.no:=id rfl
@[simp] theorem uB:z1z f ρ s=(f ρ s).bind λ_ s1=>.ok (.nx ρ) s1:=id rfl
@[simp] theorem wS:vv f ρ s=(f ρ s).bind λd s1=>.ok (.rt d) s1:=id rfl
@[simp] theorem z3M:fIf ft fs fs' ρ s=(ft ρ s).bind λx s1=>if x=true then fs ρ s1 else fs' ρ s1:=id rfl
@[simp] theorem yO:vP i f ρ s=(f ρ s).bind λd s1=>.ok (.nx (ρ.set i (some d))) s1:=id rfl
@[simp] theorem zaK:zfv i j ar ρ s=(ar ρ s).bind λds s1=>match ds with | [x,y]=>.ok (.nx ((ρ.set i (some x)).set j (some y))) s1 | _=>.no:=id rfl
@[simp] theorem kS:xK i d ρ s=.ok (ρ.set i (some d)) s:=id rfl
@[simp] theorem zfH:z13 i j (.tup [x,y]) ρ s=.ok ((ρ.set i (some x)).set j (some y)) s:=id rfl
@[simp] theorem zcM:z3W fa fb fc ρ s=(fc ρ s).bind λd s1=>(fa ρ s1).bind λo s2=>(fb ρ s2).bind λi s3=>match o,i with
 | .loc l,.int k=>match s3[l]? with
  | some xs=>match ixN xs.length k with
   | some j=>if d.flat=true then .ok (.nx ρ) (s3.set l (xs.set j d)) else .no | none=>.no
  | none=>.no
 | _,_=>.no:=id rfl
@[simp] theorem z2x:xg f ρ s=(f ρ s).bind λd s1=>match d with
 | .tup xs=>.ok (xs,[]) s1 | .lst xs=>.ok (xs,[]) s1 | .loc l=>match s1[l]? with | some xs=>.ok (xs,[(l,xs)]) s1 | none=>.no
 | _=>.no:=id rfl
@[simp] theorem zeC:z2l ar ρ s=(ar ρ s).bind λds s1=>match ds with
 | [.int j]=>if -(2 ^ 62)<=j/\j<2 ^ 62 then .ok (vg j.toNat,[]) s1 else .no | _=>.no:=id rfl
@[simp] theorem zc7:z7F ar ρ s=(ar ρ s).bind λds s1=>match ds with
 | [.int i,.int j]=>if -(2 ^ 62)<=i/\i<2 ^ 62/\-(2 ^ 62)<=j/\j<2 ^ 62 then .ok (jY i (j-i).toNat,[]) s1 else .no | _=>.no:=id rfl
@[simp] theorem zgU:zbh ar ρ s=(ar ρ s).bind λds s1=>match ds with
 | [x,y]=>match zb5 s1 x,zb5 s1 y with
  | some p,some q=>.ok (z3i p.1 q.1,p.2++q.2) s1 | _,_=>.no
 | _=>.no:=id rfl
@[simp] theorem qC:z4S fi fg fs ρ s=(fi ρ s).bind λit s1=>wK it.2 it.1 (λd ρ s=>(fg d ρ s).bind fun ρ' s'=>fs ρ' s') it.1 ρ s1:=id rfl
@[simp] theorem kq:z3l fi mp fg ft f ρ s=(fi ρ s).bind λit s1=>xM it.2 it.1 (λd s=>(fg d (zW mp ρ) s).bind fun ρ' s'=>(ft ρ' s').bind λb s2=>if b=true then (f ρ' s2).bind λd s3=>.ok (some d) s3 else .ok none s2) it.1 [] s1:=id rfl
@[simp] theorem jJ:zX fi mp fg ft f ρ s=(z3l fi mp fg ft f ρ s).bind λxs s1=>.ok (.lst xs) s1:=id rfl
@[simp] theorem z9j:z1M fi mp fg ft f ρ s=(z3l fi mp fg ft f ρ s).bind λxs s1=>if D.flat.flats xs=true then .ok (.loc s1.length) (s1++[xs]) else .no:=id rfl
@[simp] theorem zgr:xJ ρ s=.ok true s:=id rfl
@[simp] theorem zaI:zW [] ρ=[]:=id rfl
@[simp] theorem zdb:zW (some i::mp) ρ=(ρ[i]?).getD none::zW mp ρ:=id rfl
@[simp] theorem zdd:zW (none::mp) ρ=none::zW mp ρ:=id rfl
variable (a b:Int)(u v:Bool)(xs ys:List D)
@[simp] theorem kC:wT (.int a) (.int b) s=.ok (.int (a+b)) s:=rfl
@[simp] theorem z5z:wT (.tup xs) (.tup ys) s=if xs.length+ys.length<=cap then .ok (.tup (xs++ys)) s else .no:=rfl
@[simp] theorem z3Q:wT (.lst xs) (.lst ys) s=if xs.length+ys.length<=cap then .ok (.lst (xs++ys)) s else .no:=rfl
@[simp] theorem zaE:zaM (.int a) (.int b) s=.ok (.int (a-b)) s:=rfl
theorem zaG:qb (.int a) (.int b) s=if a.natAbs<BIG/\b.natAbs<BIG then .ok (.int (a*b)) s else .no:=by
 simp only[qb,dII,iOk];split<;>(rename_i h;split at h<;>simp_all)
theorem zcq:z6i (.int a) (.int b) s=if 0<b/\b.natAbs<BIG then .ok (.int (a / b)) s else .no:=by
 simp only[z6i,dII,iOk];split<;>(rename_i h;split at h<;>simp_all)
theorem zdw:z8a (.int a) (.int b) s=if 0<b then .ok (.int (a % b)) s else .no:=by
 simp only[z8a,dII,iOk];split<;>(rename_i h;split at h<;>simp_all)
theorem zeI:zdh (.int a) (.int b) s=if 0<=b/\b<=1000/\a.natAbs<1000 then .ok (.int (a ^ b.toNat)) s else .no:=by
 simp only[zdh,dII,iOk];split<;>(rename_i h;split at h<;>simp_all)
@[simp] theorem zfP:dLt (.int a) (.int b) s=.ok (.bl (decide (a<b))) s:=rfl
@[simp] theorem zgc:dLe (.int a) (.int b) s=.ok (.bl (decide (a<=b))) s:=rfl
@[simp] theorem z9r:dGt (.int a) (.int b) s=.ok (.bl (decide (b<a))) s:=rfl
@[simp] theorem zg2:dGe (.int a) (.int b) s=.ok (.bl (decide (b<=a))) s:=rfl
@[simp] theorem z7U:dEq (.int a) (.int b) s=.ok (.bl (decide (a=b))) s:=by
 have:eqD (.int a) (.int b)=decide (a=b):=by
  simp only[eqD,wm,PyData.eqv];rw[Bool.eq_iff_iff];simp
 rw[dEq,this];rfl
@[simp] theorem ze9:dNe (.int a) (.int b) s=.ok (.bl (decide (a≠b))) s:=by
 have:eqD (.int a) (.int b)=decide (a=b):=by
  simp only[eqD,wm,PyData.eqv];rw[Bool.eq_iff_iff];simp
 rw[dNe,this,_g (by constructor<;>rfl)];simp
@[simp] theorem zhq:dEq (.bl u) (.bl v) s=.ok (.bl (u==v)) s:=by cases u<;>cases v<;>rfl
@[simp] theorem zho:dNe (.bl u) (.bl v) s=.ok (.bl (u != v)) s:=by cases u<;>cases v<;>rfl
end
theorem zD{f g:FS}{ρ ρ':Ev}{s s':Sto}(h:f ρ s=.ok (.nx ρ') s'):zZ f g ρ s=g ρ' s':=by simp[h]
theorem z4b{f g:FS}{ρ:Ev}{s s':Sto}{d:D}(h:f ρ s=.ok (.rt d) s'):zZ f g ρ s=.ok (.rt d) s':=by simp[h]
theorem uD{all:List D}{body:D->Ev->Sto->R Fl}(I:Nat->Ev->Sto->Prop):∀(xs:List D)(k:Nat),(∀j x,xs[j]? = some x->∀ ρ s,I (k+j) ρ s->∃ ρ' s',body x ρ s=.ok (.nx ρ') s'/\I (k+j+1) ρ' s')-> ∀ ρ s,I k ρ s->∃ ρ' s',wK [] all body xs ρ s=.ok (.nx ρ') s'/\I (k+xs.length) ρ' s'
 | [],k,_,ρ,s,h=>⟨ρ,s,by simp[wK,okG],h⟩ | x::xs,k,hb,ρ,s,h=>by
  obtain⟨ρ1,s1,e1,h1⟩:=hb 0 x (by simp) ρ s h;obtain⟨ρ2,s2,e2,h2⟩:=uD (all:=all) I xs (k+1) (λj y hy ρ s hi=>by
   have e:k+1+j=k+(j+1):=by omega
   rw[e]at hi ⊢;exact hb (j+1) y (by simpa using hy) ρ s hi) ρ1 s1 h1;refine⟨ρ2,s2,by simp[wK,okG,e1,e2],?_⟩;have e:k+(x::xs).length=k+1+xs.length:=by simp;omega
  rw[e];exact h2
theorem z4d{n j:Nat}{x:D}(h:(vg n)[j]? = some x):j<n/\x=.int j:=by
 have hj:j<n:=by
  have:=(_b.mp h).1;simpa[vg] using this
 refine⟨hj,?_⟩;simp only[vg,_R,_cJ hj,_a6,_D]at h;exact h.symm
theorem z6K {n:Nat} {x:D} (h:x∈vg n):∃j:Nat,j<n/\x=.int j:=by
 obtain⟨j,hj,e⟩:=_Y.mp h;have:=z4d (n:=n) (j:=j) (x:=x) (by rw[_n hj,e]);exact⟨j,this.1,this.2⟩
theorem wZ:∀(ns:List Int),D.flat.flats (ns.map D.int)=true
 | []=>rfl | n::ns=>by simp[D.flat.flats,D.flat,wZ ns]
theorem z0m(i:Int):(D.int i).flat=true:=rfl
theorem wG:∀{xs:List D}{d:D},D.flat.flats xs=true->d∈xs->d.flat=true
 | x::xs,d,f,h=>by
  simp only[D.flat.flats,_p]at f;rcases _h.mp h with rfl | h;·exact f.1
  ·exact wG f.2 h
theorem uc.flatten{mg:Gm}{H H':Hp}{Y Y':List Addr}{ys:List D}{c:Addr}(k:∀b o,H b=some o->(∀vs,o≠.lst vs)->(∀kvs,o≠.dT kvs)->(∀kvs,kvs≠[]->o≠.dK kvs)->H' b=some o)(f:D.flat.flats ys=true)(e:H' c=H c)(ha:c∈Y)(ro:∀b,Own H Y b->b∉Y)(w:∀b vs,b∉Y->H b=some (.lst vs)->H' b=some (.lst vs))(h:uc mg H Y ys c):uc mg H' Y' ys c:=by
 rcases h with⟨vs,h1,h2⟩ | ⟨kvs,h1,h2⟩ | ⟨o,kvs,ys,h1,h2⟩ | ⟨kvs,g,h1,h2⟩ | ⟨o,kvs,ys,h1,e1,h2,fz⟩;·exact .inl ⟨vs,e.trans h1,h2.flatten k f⟩
 ·exact .inr (.inl ⟨kvs,e.trans h1,h2⟩)
 ·exact .inr (.inr (.inl ⟨o,kvs,ys,e.trans h1,h2⟩))
 ·refine .inr (.inr (.inr (.inl ⟨kvs,g,e.trans h1,h2.imp (λzs vs k' hm q=>q.flatten k ?_) (λq b vs hm=>w b vs (ro b ⟨c,ha,kvs,q,h1,hm⟩)) λb o vs q=>k b _ q (by intro vs z;cases z) (by intro vs z;cases z) (by intro vs g z;cases z)⟩)));rcases hm with hm | hm
  ·have:=wG f hm;simp only[D.flat,D.flat.flats,_bA,_aG]at this;exact this
  ·have:=wG f hm;simp only[D.flat,D.flat.flats,_bA,_aG]at this;exact this
 ·subst e1;have f:D.flat.flats ys=true:=by simpa[D.flat.flats,D.flat] using f
  refine .inr (.inr (.inr (.inr ⟨o,kvs,ys,e.trans h1,rfl,h2.imp (λzs vs k' hm q=>q.flatten k ?_) (λq b vs hm z=>(h2.fz fz.1 hm z).elim) λb o vs q=>k b _ q (by intro vs z;cases z) (by intro vs z;cases z) (by intro vs g z;cases z),fz⟩)));rcases hm with hm | hm
  ·have:=wG f hm;simp only[D.flat,D.flat.flats,_bA,_aG]at this;exact this
  ·have:=wG f hm;simp only[D.flat,D.flat.flats,_bA,_aG]at this;exact this
end Dd
namespace Zz
open PySem.AutoSeq1 (wpAny_loadPart')
end Zz
namespace L2
open Zz
theorem z0Q(ns:List Int):∀n,n<=ns.length->preSum (λi=>ns.getD i 0) n=(ns.take n).sum
 | 0,_=>by simp[preSum] | n+1,h=>by
  rw[preSum,z0Q ns n (by omega),<- List.take_append_getElem (show n<ns.length by omega),List.sum_append];have e:ns.getD n 0=ns[n]:=by simp[List.getD,_n (show n<ns.length by omega)]
  rw[e];simp only[List.sum_cons,List.sum_nil,Int.add_zero]
theorem z8P{X:Cx}(hc:X.calm=true):xG X (.builtin "sum") (λxs H Q=>∃(b:Bool)(p:Addr)(ns:List Int),xs=[.ref p]/\Sq b X.K H p (ns.map V.int)/\Q (.int ns.sum) H):=by
 intro pins s O H xs us Q I r h;obtain⟨b,p,ns,rfl,hq,q⟩:=h;obtain⟨u,rfl,ru⟩:=vals1 r;cases ru;obtain⟨its,rv,co⟩:=I.sq hq;have hl:its.length=ns.length:=by have:=rv.length;simp at this;omega
 refine call_sum_walkG (z1m (I.ok.hd hc) co λs2 e2 St W st bd old=>?_);subst e2;refine⟨_,_,_,_,_,_,(λi=>ns.getD i 0),rfl,W,st,bd,(λi v e=>let ⟨t,e1,_⟩:=z1l rv e;⟨t,e1⟩),λh' tk t' hk=>?_⟩;have ez:its.toArray.size=ns.length:=by simp[hl]
 rw[ez,z0Q ns _ (_f _),_dr];exact⟨.int ns.sum,H,I.kept (t':=tk) (old h' hk),⟨t',rfl⟩,q⟩
end L2
namespace L2
end L2
namespace Dd
open L2
section
variable {X:Cx}{E:XK}{e a b c tg iter elt:Expr}{es:List Expr}{pos:Pos}{CX:CXT}
noncomputable def zhr(i j k:Nat)(f:FA):FS:=fun ρ s=>(f ρ s).bind λds s1=>match ds with | [x,y,z]=>.ok (.nx (((ρ.set i (some x)).set j (some y)).set k (some z))) s1 | _=>.no
noncomputable def zdf:List D->Sto->R D
 | [d],s=>match (ye s d).bind intsOf with | some ns=>.ok (.int ns.sum) s | none=>.no
 | _,_=>.no
theorem zeQ(hc:X.calm=true):∃r,xG X (.builtin "sum") r/\jH X E r zdf:=⟨_,z8P hc,λH Y s ds vs Q r hd h=>by
 unfold zdf at h;split at h
 ·rename_i d;split at h
  ·rename_i ns e;obtain⟨xs,e1,e2⟩:=_a2.mp e;have:=vS e2;subst this;obtain⟨v,rfl,dn⟩:=z0F hd;obtain⟨a,ws,rfl,q1,q2⟩:=uy (K:=X.K) r e1 dn;cases vT q2;obtain⟨b,q⟩:=z5E q1;exact⟨b,a,ns,rfl,q,h.here r yW⟩
  ·exact h.elim
 ·exact h.elim⟩
end
end Dd
namespace L2
end L2
namespace Dd
open L2
end Dd
namespace PySem
open PySem.AutoSeq1 (wpAny_loadPart')
open MeetsSeq MeetsSeq2 SeqAt
end PySem
namespace L2
end L2
namespace Dd
open L2
theorem yw.cut{mg:Gm}{H H1:Hp}{Y Y1:List Addr}{s1:Sto}(stp:yw mg H Y H1 Y1 s1):yw mg H Y H1 (Y1.take Y.length) (s1.take Y.length):=by
 have fl:∀{ds:List D}{ws:List V},D.flat.flats ds=true->zq mg H1 Y1 ds ws->zq mg H1 (Y1.take Y.length) ds ws:=λf h=>h.flatten (λ_ _ h _ _ _=>h) f;have dk:DkS H1 Y1 H1 (Y1.take Y.length):=λb hb kvs e=>⟨_W hb,e⟩;refine⟨⟨by simp[stp.rep.len],stp.rep.nd.sublist (_db _ _),λj ys h=>?_,λys h=>stp.rep.flat ys (_W h),λb h z=>stp.rep.own b (dk.own h) (_W z),dk.uq stp.rep⟩,?_,stp.keep,λc h1 h2=>stp.new c (_W h1) h2,stp.mt,stp.dom,λb h=>stp.ow b (dk.own h)⟩
 ·have hj:j<Y.length:=by
   have:=(_b.mp h).1;simp at this;omega
  rw[_aE hj]at h ⊢;obtain⟨c,q1,q2⟩:=stp.rep.cell j ys h;exact⟨c,q1,q2.flatten (λ_ _ h _ _ _=>h) (stp.rep.flat _ (_d h)) rfl (_d q1) stp.rep.own (λ_ _ _ q=>q)⟩
 ·obtain⟨t,ht⟩:=stp.pre;exact⟨[],by rw[<- ht,List.take_append];simp⟩
theorem yw.frzC{mg:Gm}{H H1:Hp}{Y Y1:List Addr}{s1:Sto}{l:Nat}{xs:List D}(stp:yw mg H Y H1 Y1 s1){a:Addr}(hl:Y.length<=l)(hx:s1[l]? = some xs)(e1:Y1[l]? = some a)(ka:IsL H1 a):∃vs,H1 a=some (.lst vs)/\ ∀o,yw mg H Y (upd H1 a (.frz o (.lst vs))) (Y1.take Y.length) (s1.take Y.length)/\Den mg (upd H1 a (.frz o (.lst vs))) (Y1.take Y.length) (.lst xs) (.ref a):=by
 obtain⟨vs,e2,e3⟩:=stp.rep.at_ hx e1 ka;refine⟨vs,e2,λo=>?_⟩;have il:l<Y1.length:=(_b.mp e1).1;have an:a∉Y:=λz=>by
  obtain⟨j,hj,ej⟩:=_Y.mp z;obtain⟨t,ht⟩:=stp.pre;have:Y1[j]? = some a:=by rw[<- ht,_u hj,_n hj,ej]
  have:=(_aU stp.rep.nd).mp (((_b.mp this).2).trans ((_b.mp e1).2).symm);omega
 have a0:H a=none:=stp.new a (_d e1) an;have k:∀b u,H1 b=some u->(∀vs,u≠.lst vs)->(∀kvs,u≠.dT kvs)->(∀kvs,kvs≠[]->u≠.dK kvs)->upd H1 a (.frz o (.lst vs)) b=some u:=λb u h hn _ _=>by rw[zg (λz=>by subst z;rw[e2]at h;exact hn vs (_v h).symm)];exact h
 have fl:∀{ds:List D}{ws:List V},D.flat.flats ds=true->zq mg H1 Y1 ds ws->zq mg (upd H1 a (.frz o (.lst vs))) (Y1.take Y.length) ds ws:=λf h=>h.flatten k f;have dk:DkS H1 Y1 (upd H1 a (.frz o (.lst vs))) (Y1.take Y.length):=λb hb kvs e=>by
  by_cases z:b=a;·subst z;rw[zu]at e;cases e
  ·rw[zg z]at e;exact⟨_W hb,e⟩
 have mem:∀{j:Nat}{ys:List D},s1[j]? = some ys->D.flat.flats ys=true:=λe=>stp.rep.flat _ (_d e);refine⟨⟨⟨by simp[stp.rep.len],stp.rep.nd.sublist (_db _ _),λj ys h=>?_,λys h=>stp.rep.flat ys (_W h),λb h z=>stp.rep.own b (dk.own h) (_W z),dk.uq stp.rep⟩,?_,λb u h n g=>?_,λc h1 h2=>stp.new c (_W h1) h2,λb hb=>?_,λb h=>stp.dom b (vn h),λb h=>stp.ow b (dk.own h)⟩,?_⟩
 ·have hj:j<Y.length:=by
   have:=(_b.mp h).1;simp at this;omega
  rw[_aE hj]at h ⊢;obtain⟨c,q1,q2⟩:=stp.rep.cell j ys h;refine⟨c,q1,q2.flatten k (mem h) (zg λz=>?_) (_d q1) stp.rep.own (λb vs hb q=>by rw[zg (show b≠a from λz=>hb (z ▸ _d e1))];exact q)⟩;subst z;have:=(_aU stp.rep.nd).mp (((_b.mp q1).2).trans ((_b.mp e1).2).symm);omega
 ·obtain⟨t,ht⟩:=stp.pre;exact⟨[],by rw[<- ht,List.take_append];simp⟩
 ·rw[zg (λz=>by subst z;rw[a0]at h;cases h)];exact stp.keep b u h n g
 ·have ne:b≠a:=λz=>an (z ▸ hb);rcases stp.mt b hb with⟨q1,q2⟩ | ⟨q1,q2,q3⟩;·exact .inl ⟨q1,by rw[IsL,zg ne];exact q2⟩
  ·exact .inr ⟨q1,by rw[IsC,zg ne];exact q2,λo u z=>by rw[zg ne];exact q3 o u z⟩
 ·simp only[Den];exact⟨a,o,vs,rfl,zu,fl (mem hx) e3⟩
noncomputable def zc1(n:Nat):R D->R D
 | .ok (.loc l) s1=>match s1[l]? with
  | some xs=>if n<=l then .ok (.lst xs) (s1.take n) else .no | none=>.no
 | .ok _ _=>.no | .ex c s1=>.ex c s1 | .no=>.no
noncomputable def z7J(f:FE):FE:=fun ρ s=>zc1 s.length (f ρ s)
section
variable {X:Cx}{E:XK}{e:Expr}
theorem zf5{f:FE}(h:RE X E e f):RE X E e (z7J f):= yh (PE.freeze h) λO H Q ⟨Y,ρ,s,r,en,h⟩=>by
  refine⟨Y,ρ,s,r,en,?_⟩;unfold z7J zc1 at h;split at h
  ·rename_i l s1 e1;rw[e1];split at h
   ·rename_i xs ex;split at h
    ·rename_i hl;intro v H1 Y1 stp dn;simp only[Den]at dn;obtain⟨a,rfl,q1,ka⟩:=dn;obtain⟨vs,q2,q3⟩:=stp.frzC (by rw[r.len];exact hl) ex q1 ka;rw[<- r.len]at h;exact⟨a,vs,rfl,q2,λo=>h _ _ _ (q3 o).1 (q3 o).2⟩
    ·exact h.elim
   ·exact h.elim
  ·exact h.elim
  ·rename_i e1;rw[e1];exact h
  ·exact h.elim
end
@[simp] theorem zby (f:FE)(ρ:Ev)(s:Sto):z7J f ρ s=zc1 s.length (f ρ s):=id rfl
@[simp] theorem zfw {s:Sto}{xs:List D}:zc1 s.length (.ok (.loc s.length) (s++[xs]))=.ok (.lst xs) s:=by simp[zc1]
noncomputable def z4G(n:Nat):R D->R D
 | .ok (.loc l) s1=>if l<n then .ok (.loc l) (s1.take n) else .ok (.loc l) s1 | .ok d s1=>if d.flat=true then .ok d (s1.take n) else .ok d s1 | r=>r
noncomputable def z4g(M:Mir):Mir:=λds s=>z4G s.length (M ds s)
theorem zbT{mg:Gm}{M:Mir}{vs:List V}{H:Hp}{Q:VK}{E:XK}(h:zde mg (z4g M) vs H Q E):zde mg M vs H Q E:=by
 obtain⟨Y,s,ds,r,dn,h⟩:=h;refine⟨Y,s,ds,r,dn,?_⟩;unfold z4g z4G at h;split at h
 ·rename_i l s1 e;rw[e];split at h
  ·rename_i hl;intro v H1 Y1 stp dv;rw[<- r.len]at h;refine h v H1 _ stp.cut ?_;simp only[Den]at dv ⊢;obtain⟨a,rfl,e1,ka⟩:=dv;exact⟨a,rfl,by rw[_aE (by rw[r.len];exact hl)];exact e1,ka⟩
  ·exact h
 ·rename_i d s1 hn e;rw[e];split at h
  ·rename_i hf;intro v H1 Y1 stp dv;rw[<- r.len]at h;exact h v H1 _ stp.cut (dv.flatten (λ_ _ h _ _ _=>h) hf)
  ·exact h
 ·exact h
section
variable {P:Program}{w:World}{K:W.Frag}{mg:Str->Option Value}{base:Heap}
theorem Has.tidy{CX:CXT}{x:Str}{n:Nat}{M:Mir}(h:Has P w K mg base CX x n M):Has P w K mg base CX x n (z4g M):=by
 obtain⟨f,fd,ps,F,r⟩:=h;exact⟨f,fd,ps,F.imp λvs H Q E h=>zbT h,r⟩
end
@[simp] theorem z2H (M:Mir)(ds:List D)(s:Sto):z4g M ds s=z4G s.length (M ds s):=id rfl
@[simp] theorem ke {d:D}{n:Nat}{s1:Sto}(h:d.flat=true):z4G n (.ok d s1)=.ok d (s1.take n):=by cases d<;>first | (simp[D.flat]at h;done) | simp_all[z4G]
theorem zq.flat_rep{mg:Gm}{H:Hp}{Y:List Addr}{xs:List D}{vs:List V}(h:zq mg H Y xs vs):∀k:Nat,zq mg H Y (List.replicate k xs).flatten (List.replicate k vs).flatten
 | 0=>by simpa using zq.nil | k+1=>by
  rw[_aQ,_aQ,_bk,_bk];exact h.append (h.flat_rep k)
def Sub(K:W.Frag)(h:Heap):Prop:=∀p∈K,h.get? p.1=some p.2
theorem Sub.in_{K:W.Frag}{h:Heap}(s:Sub K h):K.In h:=λa o e=>by induction K with
 | nil=>simp at e | cons p K ih=>
  obtain⟨b,u⟩:=p;rw[_aq]at e;split at e
  ·rename_i hb;cases e;have:a=b:=by simpa using hb
   subst this;exact s (a,o) (by simp)
  ·exact ih (λq hq=>s q (by simp[hq])) e
theorem z2C(h:Heap)(a:Addr):Sub (z4O h a) h:=λp hp=>by
 unfold z4O at hp;split at hp
 ·rename_i o e;simp at hp;subst hp;exact e
 ·simp at hp
theorem Sub.app{K L:W.Frag}{h:Heap}(a:Sub K h)(b:Sub L h):Sub (K++L) h:=λp hp=>(_E.mp hp).elim (a p) (b p)
theorem zbH(h:Heap)(ns:List Str):Sub (gat h ns) h:=by
 refine (z2C h _).app λp hp=>?_;obtain⟨x,_,hx⟩:=_ds.mp hp;unfold zgV at hx;split at hx
 ·rcases _E.mp hx with hx | hx;·exact z2C h _ p hx
  ·split at hx
   ·split at hx;·exact z2C h _ p hx
    ·simp at hx
   ·exact z2C h _ p hx
   ·simp at hx
 ·simp at hx
def zgP(K:W.Frag)(x:Str)(st:Stmt):Prop:=∃f fd,W.nsIn K mainGlobals x=some (some (.ref f))/\Fun K x x st f fd
theorem dA(s:Stmt):dArgs s=kc s:=by cases s<;>rfl
theorem dB(s:Stmt):zeg s=uC s:=by cases s<;>rfl
theorem dS(s:Stmt):zaT s=zo s:=by cases s<;>rfl
theorem zcb{K:W.Frag}{x:Str}{st:Stmt}(h:zcH K x=zfW x st):zgP K x st:=by
 unfold zcH zfW at h;rw[dA,dB,dS]at h;split at h
 ·rename_i f hf;split at h
  ·rename_i oc od fd sl hl;simp only[_D,_aX]at h;obtain⟨h1,h2,h3,h4,h5,h6,h7,h8,h9,h10,h11⟩:=h;obtain⟨a1,a2,a3,a4,a5,a6,a7,a8,a9,a10,a11,a12,a13,a14,a15⟩:=fd;simp only at h1 h2 h3 h4 h5 h6 h7 h8 h9 h10;subst h1 h3 h4 h5 h6 h7 h8 h9;subst h2;exact⟨f,_,hf,zeR hl h10 h11⟩
  ·cases h
 ·cases h
theorem z9m{K:W.Frag}{x:Str}(h:zc9 K x=true):W.nsIn K mainGlobals x=some none:=by
 unfold zc9 at h;split at h;·rename_i e;exact e
 ·cases h
theorem zaw{K:W.Frag}{x:Str}{i:Int}(h:zd8 K x=some i):∃t,W.nsIn K mainGlobals x=some (some (.int i t)):=by
 unfold zd8 at h;split at h;·rename_i j t e;cases h;exact⟨t,e⟩
 ·cases h
def saysS(q:Ask)(w:World)(h:Heap):Prop:=∃K:W.Frag,K.In h/\z9D q K=valS q w
theorem zbE(q:Ask)(w:World)(s:Shared)(e:obsS q s=valS q w):saysS q w s.heap:=⟨_,(zbH _ _).in_,e⟩
theorem z6B(q:Ask)(w:World)(h h':Heap)(x:saysS q w h)(k:∀b o,h.get? b=some o->h'.get? b=some o):saysS q w h':=let ⟨K,a,b⟩:=x;⟨K,a.keeps k,b⟩
theorem z8L{α β:Type}{f g:α->β}:∀{l:List α},l.map f=l.map g->∀x∈l,f x=g x:=λh x hx=>List.map_inj_left.mp h x hx
theorem zgy{q:Ask}{w:World}{K:W.Frag}(e:z9D q K=valS q w)(x:Str)(st:Stmt)(hx:(x,st)∈q.fs):zgP K x st:=zcb (z8L (_ba Prod.fst e) (x,st) hx)
theorem zfY{q:Ask}{w:World}{K:W.Frag}(e:z9D q K=valS q w)(x:Str)(hx:x∈q.bs):W.nsIn K mainGlobals x=some none:=z9m (z8L (_ba (λz=>z.2.1) e) x hx)
theorem zgF{q:Ask}{w:World}{K:W.Frag}(e:z9D q K=valS q w)(x:Str)(i:Int)(hx:(x,i)∈q.cs):∃t,W.nsIn K mainGlobals x=some (some (.int i t)):=zaw (z8L (_ba (λz=>z.2.2.1) e) (x,i) hx)
theorem z6z{p q:Program}{loose:List Str}{Xt:Shared->Bool}{α:Type}{Yf:Shared->α}{Ya:World->α}{N:Nat}{g0:Bool} (bo:∀w:World,(W.fencedOpening treeTable p w N).map (λs=>(s.heap,s.gens,s.drawn,s.toks))=some (W.boot_heap w.params,Array.mk [],W.boot_drawn,W.boot_toks)) (hf:∀(w:World)(os:OsState),(W.topFrom treeTable p w N ⟨W.boot_heap w.params,Array.mk [],W.boot_drawn,W.boot_toks,os⟩).map (λs=>(W.openSeen q loose (importedModules p.main.body) Xt g0 s,Yf s))=some (W.openGood q loose,Ya w)):W.LeftO p q loose Xt Yf Ya N g0:=λw=>by
 obtain⟨⟨h,gs,d,k,os⟩,e,e'⟩:=_A.mp (bo w);obtain⟨rfl,rfl,rfl,rfl⟩:h=W.boot_heap w.params/\gs=Array.mk []/\d=W.boot_drawn/\k=W.boot_toks:=by simpa only [_aX] using e'
 unfold W.openEnds;rw[e,_ar];exact hf w os
theorem z3P{tb:String->Option Builtin}{p:Program}{w:World}{n₀:Nat}{ann:Option Value}:∀{n:Nat}{s s':W.SharedT}{t:Thread},z16 tb p w n₀ ann n s t=some s'->W.topRun tb p w n₀ ann n s.abs t=some s'.abs
 | 0,_,_,_,h=>by cases h | n+1,s,s',t,h=>by
  unfold z16 at h;unfold W.topRun;cases he:W.through t with
  | true=>rw[he]at h;cases h;rfl | false=>
   rw[he]at h;cases hk:W.stepOk n₀ ann t with
   | false=>rw[hk]at h;cases h | true=>
    rw[hk]at h;cases hs:W.stepT (denote tb) p w s t with
    | none=>rw[hs]at h;cases h | some r=>obtain⟨s₂,t₂⟩:=r;rw[hs]at h;rw[W.stepT_spec hs];exact z3P h
theorem z65{p:Program}{w:World}{N:Nat}{h:Heap}{d:Drawn}{k:Nat}{os:OsState}{t0:W.BT}{m₀:Nat}{ann:Option Value}(ha:W.absHeap t0 m₀ h.life=h) (sz:(h.isNs mainGlobals&&(Array.mk []:Array GenState).size==0,h.objs.size,h.nsMap mainGlobals "__annotations__")=(true,m₀,ann)){α:Type}{f:Shared->α}{v:α} (hr:(z16 treeTable p w m₀ ann N ⟨t0,m₀,h.life,Array.mk [],d,k,os⟩ (W.topStub p)).map (λsT=>(W.staticsOk (importedModules p.main.body) h sT.abs.heap&&W.namesBound p sT.abs.heap&&W.gensDone sT.abs&&W.laidKept h sT.abs.heap,f sT.abs))=some (true,v)): (W.topFrom treeTable p w N ⟨h,Array.mk [],d,k,os⟩).map f=some v:=by
 obtain⟨sT,e1,e2⟩:=_A.mp hr;obtain⟨e3,e4⟩:=Prod.mk.inj e2;obtain⟨z1,z2,z3⟩:_/\_/\_:=by simpa only [_aX] using sz
 have r:=z3P e1;have a0:(⟨t0,m₀,h.life,Array.mk [],d,k,os⟩:W.SharedT).abs=⟨h,Array.mk [],d,k,os⟩:=by
  show (⟨W.absHeap t0 m₀ h.life,Array.mk [],d,k,os⟩:Shared)=_;rw[ha]
 rw[a0]at r;have t:W.topFrom treeTable p w N ⟨h,Array.mk [],d,k,os⟩=some sT.abs:=by
  unfold W.topFrom;dsimp only;rw[z1,z2,z3];dsimp only;rw[r];show (match (W.staticsOk (importedModules p.main.body) h sT.abs.heap&&W.namesBound p sT.abs.heap&&W.gensDone sT.abs&&W.laidKept h sT.abs.heap) with | true=>some sT.abs | false=>none)=_;rw[e3]
 rw[t,_a6,e4]
theorem z90{α β γ δ:Type}{r:Option α}{f:α->β}{g:α->γ}{k:α->δ}{x:β}{y:γ}{z:δ}(h1:r.map (λs=>(f s,k s))=some (x,z))(h2:r.map g=some y):r.map (λs=>(f s,(g s,k s)))=some (x,(y,z)):=by
 obtain⟨s,e1,e2⟩:=_A.mp h1;obtain⟨s',e3,e4⟩:=_A.mp h2;rw[e1]at e3;cases e3;obtain⟨e5,e6⟩:=Prod.mk.inj e2;rw[e1,_a6,e4,e5,e6]
theorem walkY{l:W.OpenLaw}{n k:Nat}{q:Program}{loose:List Str}{XP:(Str->Option Value)->Heap->Prop}{YP:World->Heap->Prop}{d:DefRec}{x:Str} (hn:l.most=some n)(hn2:n<=sizeLine)(hn3:n<=63)(hdf:d.params.defaults=[])(hr:z1v k callerA) (F:∀(w:World)(mg:Str->Option Value)(fa:Addr)(h:Heap),YP w h->h.Ns mainGlobals mg->mg d.name=some (.ref fa)->XP mg h-> ∃K:W.Frag,K.In h/\∃fd:FuncData,(∀(s:Shared)(u:Value),BindsTo s fd ⟨[u],[]⟩ [(x,u)])/\ ∀base:Heap,K.In base->base.Ns mainGlobals mg->z3h l.prog w K mg base CX0 k fa fd [x] (zcv K)): W.WalkO q loose XP YP l.row.toRowW d [] (λf vs=>PySem.call f vs):=by
 refine Att.z4X hn hdf λw s₀ s₁ mg mb fa o pm cd doc a vs ns G Yy ho hd hcd hmg hobj hints hlen hg=>?_;obtain⟨K,KX,fd,hb,hF⟩:=F w mg fa _ Yy G.T.g hmg G.X;exact z9Y KX G.T.g G.T.b G.T.builtins G.T.nolimit hg hobj hints (_M hlen hn2) hr hF hb (λH hO hS=>⟨a,ns,rfl,hO,hS,_M hlen hn3,λ_=>rfl⟩) λH e s' z=>z
end Dd
namespace HT
section
variable {prog:Program}{w:World}{A:Around}{s:Shared}{E:Value->Shared->Prop}
theorem z6q (n:Nat):Builtin.Slice.sliceAdjust none none (-1) (n:Int)=((n:Int)-1,-1):=by
 unfold Builtin.Slice.sliceAdjust;simp
theorem z6F(n:Nat):Builtin.Slice.slicePlaces ((n:Int)-1) (-1) (-1)=n:=by
 unfold Builtin.Slice.slicePlaces;rw[_j (by decide)];by_cases h:n=0;·subst h;simp
 ·rw[_g (by omega)];simp
theorem z0e {sl:Addr} {t:Tok} {n:Nat} {Q:Int×Int×Nat->Shared->Prop} (hs:s.heap.IsSliceOf sl .none .none (.int (-1) t)) (h:Q ((n:Int)-1,-1,n) s):wpAny (model prog w) A (Builtin.Slice.sliceApplied (.ref sl) (pure (n:Int))) Q E s:=by
 obtain⟨os,hos,hcs,hds⟩:=id hs;unfold Builtin.Slice.sliceApplied Builtin.Slice.sliceFields;refine _a (_a (_am hos hds (x:=.none) rfl (_a (_am hos hds (x:=.none) rfl (_a (_am hos hds (x:=.int (-1) t) rfl (_c ?_)))))));refine _a (slicePart_int ?_);show wpAny _ _ (if ((-1:Int)==0)=true then _ else _) _ _ s;rw[_j (by decide)];refine _a (_cX (_a (_cX (_a (_c ?_)))));show wpAny _ _ (match Builtin.Slice.sliceAdjust none none (-1) (n:Int) with | (lo,hi)=>pure (lo,(-1:Int),Builtin.Slice.slicePlaces lo hi (-1))) _ _ s;rw[z6q n];show wpAny _ _ (pure ((n:Int)-1,(-1:Int),Builtin.Slice.slicePlaces ((n:Int)-1) (-1) (-1))) _ _ s;rw[z6F];exact _c h
theorem z9g(xs:Array Value):((List.range xs.size).filterMap λ(m:Nat)=>xs[((xs.size:Int)-1+(m:Int)*(-1)).toNat]?).toArray=xs.toList.reverse.toArray:=by
 congr 1;have key:∀(k:Nat),k<=xs.size->(List.range k).filterMap (λ(m:Nat)=>xs[((xs.size:Int)-1+(m:Int)*(-1)).toNat]?)=xs.toList.reverse.take k:=by
  intro k;induction k with
  | zero=>simp | succ k ih=>
   intro hk;rw[List.range_succ,List.filterMap_append,ih (by omega)];have h1:((xs.size:Int)-1+(k:Int)*(-1)).toNat=xs.size-1-k:=by omega
   rw[_bM,h1,Array.getElem?_eq_getElem (by omega)];have hl:k<xs.toList.reverse.length:=by simp;omega
   rw[_c1,_n hl];simp
 rw[key _ (_f _),_aA (by simp)]
theorem jU {t sl:Addr} {items:Array Value} {tk:Tok} {Q:Value->Shared->Prop} (ht:IsTup s.heap t items) (hs:s.heap.IsSliceOf sl .none .none (.int (-1) tk)) (h:Q (.ref s.heap.objs.size) {s with heap:=s.heap.push {cls:=.type "tuple",data:=.seq items.toList.reverse.toArray}}) (hsz:items.size<=sizeLine):wpAny (model prog w) A (getItem (.ref t) (.ref sl)) Q E s:=by
 have htake:sizeOk (.seq items.toList.reverse.toArray):=by
  show items.toList.reverse.toArray.size<=sizeLine;simpa using hsz
 obtain⟨os,hos,hcs,hds⟩:=id hs;have hTs:s.TypeIs (.ref sl) "slice":=⟨os,hos,hcs⟩;unfold getItem;try with_reducible refine _ay ?_
 first | refine _a (_c ?_) | skip
 refine _a (_dc ht.typeIs (by decide) ?_);refine _a (_ac (name:=Str.ofString "__getitem__") ht.typeIs _J (_af _J ht.typeIs _cI ?_ (_cY _ _)));show wpAny _ _ (Builtin.Tuple.tupleItemsOf (.ref t) >>= _) _ _ s;refine _a (tupleItemsOf_ ht ?_);refine _a (_cQ hTs ?_);rw[_g (by decide)];refine _a (z0e (n:=items.size) hs ?_);have hno:¬ (((items.size:Int)-1==0&&(-1:Int)==1&&items.size==items.size)=true):=by simp
 show wpAny _ _ (if ((items.size:Int)-1==0&&(-1:Int)==1&&items.size==items.size)=true then _ else _) _ _ s;rw[_j hno,z9g];first
  | exact _a (m:=Builtin.Tuple.tupleExact _) (_L (_c ⟨_,rfl,_c h⟩) htake) | exact _a (m:=Builtin.Tuple.tupleExact _) (_L (_a (_c (_c ⟨_,rfl,_c h⟩))) htake) | exact _a (_a (m:=Builtin.Tuple.tupleExact _) (_L (_c (_c ⟨_,rfl,_c h⟩)) htake)) | exact _a (_a (m:=Builtin.Tuple.tupleExact _) (_L (_c ⟨_,rfl,_c h⟩) htake))
end
end HT
namespace L2
section
variable {X:Cx}{e m:Expr}{te:TE}{pos p2:Pos}
def zfM(K:W.Frag)(te:TE):TE:=λO H Q=>te O H λx H1=>∃a xs,x=.ref a/\SqT K H1 a xs/\∀p,H1 p=none->Q (.ref p) (upd H1 p (.tup xs.reverse))
theorem zcW (he:PE X e te) (hm:∀(pins:List (Addr×Obj)) (s:Shared) (O:St) (H:Hp),Inv X pins O H s->wpAny (model X.prog X.w) X.A (evalPart (some m) X.env) (λu s'=>∃t,u=.int (-1) t/\Inv X pins O H s') X.xe s): PE X (.Subscript e (.Slice none none (some m) p2) pos) (zfM X.K te):=by
 intro pins s O H Q I h;refine Subscript_ (thn (he pins s O H _ I h) λv s1 ⟨x,H1,I1,r1,q1⟩=>?_);refine wpAny_Slice ?_;rw[evalPart_none];refine _c (_c ?_);refine thn (hm pins s1 O H1 I1) λu s3 ⟨t,eu,I3⟩=>?_;subst eu;have I4:Inv X pins O H1 {s3 with heap:=s3.heap.push {cls:=.type "slice",data:=.fields #[.none,.none,.int (-1) t]}}:=I3.kept (t':=s3.toks) λb ob q=>_e _ q;obtain⟨a,xs,rfl,hx,q⟩:=q1;cases r1;obtain⟨its,r,ht,hz⟩:=I4.tuple hx;show wpAny (model X.prog X.w) X.A (subscriptTail e (.Slice none none (some m) p2) (.ref a) (.ref s3.heap.objs.size)) (EP X pins O Q) X.xe {s3 with heap:=s3.heap.push {cls:=.type "slice",data:=.fields #[.none,.none,.int (-1) t]}};refine tail_any (ops:=[.ref a,.ref s3.heap.objs.size]) ht.typeIs _J.lookup ?_ (by with_unfolding_all rfl);have hlen:its.toArray.size=xs.length:=by rw[_k];exact r.length.symm
 refine HT.jU ht (Heap.IsSliceOf.new ..) ?_ (by rw[hlen];exact hz);refine⟨.ref _,_,I4.laid (t':=s3.toks) (o:=.tup xs.reverse) (λb ob q=>_e _ q) (_f _) ?_,rfl,q _ (I4.hok.fresh (_f _))⟩;have hr:yF xs.reverse its.reverse:=by
  clear hx hz ht q I4 hlen;induction r with
  | nil=>exact .nil | cons p _ ih=>rw[_bC,_bC];exact ih.append (.cons p .nil)
 refine⟨by simpa using hz,its.reverse,hr,?_⟩;have e:its.toArray.toList.reverse.toArray=its.reverse.toArray:=by simp
 rw[e];exact z70.new _ _
end
end L2
namespace Dd
open L2
section
variable {X:Cx}{E:XK}{e:Expr}{pos p2 p3 p4:Pos}
theorem zq.rev{mg:Gm}{H:Hp}{Y:List Addr}:∀{xs:List D}{vs:List V},zq mg H Y xs vs->zq mg H Y xs.reverse vs.reverse
 | [],vs,h=>by simp only[zq]at h;subst h;exact zq.nil | d::ds,vs,h=>by
  simp only[zq]at h;obtain⟨v,r,rfl,h1,h2⟩:=h;rw[_bC,_bC];exact (zq.rev h2).append (.one h1)
noncomputable def zcL(f:FE):FE:=fun ρ s=>(f ρ s).bind λd s1=>match d with
 | .tup xs=>.ok (.tup xs.reverse) s1 | _=>.no
theorem zfm {j:Nat} {f:FE} (he:RE X E e f):RE X E (.Subscript e (.Slice none none (some (.UnaryOp .USub (.Constant (.int 1) j p3) p4)) p2) pos) (zcL f):= yh (zcW he λpins s O H I=>by
  rw[evalPart_some];refine thn ((zeW (pos:=p4) zaW (zbo (i:=1) (j:=j) (pos:=p3))) pins s O H (λv H1=>v=.int (-1)/\H1=H) I ?_) λu s1 ⟨x,H1,I1,r1,e1,e2⟩=>?_;·exact⟨1,rfl,rfl,rfl⟩
  ·subst e1 e2;obtain⟨t,rfl⟩:=r1;exact⟨t,rfl,I1⟩) λO H Q ⟨Y,ρ,s,r,en,h⟩=>by
  unfold zcL at h;refine⟨Y,ρ,s,r,en,(okR.bind (Dn:=Den (gm X)) h).imp λv H1 ⟨Y1,s1,d,stp,dn,h1⟩=>?_⟩;cases d with
  | tup xs=>
   obtain⟨a,vs,rfl,q1,q2⟩:=qB (K:=X.K) dn;exact⟨a,vs,rfl,q1,kH stp.rep h1 q2.rev⟩ | _=>exact h1.elim
@[simp] theorem zb6 (f:FE)(ρ:Ev)(s:Sto):zcL f ρ s=(f ρ s).bind λd s1=>match d with
 | .tup xs=>.ok (.tup xs.reverse) s1 | _=>.no:=id rfl
end
end Dd
namespace PySem
open PySem.Sem (wp)
end PySem
namespace Dd
open L2
end Dd
namespace PySem
open PySem.Sem (wp)
open PySem.W
end PySem
namespace L2
end L2
namespace Dd
open L2
end Dd
namespace L2
open MeetsSeq MeetsSeq2 SeqAt
end L2
namespace Dd
open L2
end Dd
namespace L2
end L2
namespace Dd
open L2
end Dd
namespace PySem
open PySem.AutoSeq1 (wpAny_loadPart')
open MeetsSeq MeetsSeq2 SeqAt
theorem z3v (l:Addr) (items:Array Value) (n:Nat) (dd:Option Addr) (sl:Array (Option Value)) (x:Int) (u:Tok) (h2:2<=x) (hx:x<2 ^ 63) (hne:items.isEmpty=false) (hc:¬ (items.size:Int)*x > (2 ^ 63-1) / 8) (ht:Builtin.Tuple.tupleTooMany ((items.size:Int)*x)=false) (hs:((List.replicate x.toNat items).foldl (· ++ ·) #[]).size<=sizeLine): Meets (Builtin.«tuple.__mul__» ⟨[.ref l,.int x u],[]⟩) (λA R s=>s.heap.get? l=some {cls:=.type "tuple",dict:=dd,data:=.seq items n,slots:=sl}/\R (.ok (.ret (.ref s.heap.objs.size))) {s with heap:=s.heap.push {cls:=.type "tuple",data:=.seq ((List.replicate x.toNat items).foldl (· ++ ·) #[])}}):= .of_wp λprog w A R s h=>by
  obtain⟨hp,g,d,tk,os⟩:=s;obtain⟨hl,h⟩:=h;have e1:(x==1)=false:=by simp;omega
  have e2:decide (x<=0)=false:=by simp;omega
  have e3:decide (x < -(2 ^ 63))=false:=by simp;omega
  have e4:decide (x ≥ 2 ^ 63)=false:=by simp;omega
  wp_walk using _aR hl;rw[_j (by simp;omega)];wp_walk using _aR hl;rw[_j hc];wp_walk;exact⟨_,rfl,h⟩
theorem z2i(l:Addr)(items:Array Value)(n:Nat)(dd:Option Addr)(sl:Array (Option Value))(u:Tok): Meets (Builtin.«tuple.__mul__» ⟨[.ref l,.int 1 u],[]⟩) (λA R s=>s.heap.get? l=some {cls:=.type "tuple",dict:=dd,data:=.seq items n,slots:=sl}/\R (.ok (.ret (.ref l))) s):= .of_wp λprog w A R s h=>by
  obtain⟨hp,g,d,tk,os⟩:=s;obtain⟨hl,h⟩:=h;wp_walk using _aR hl;exact⟨_,rfl,h⟩
theorem uQ:fillsNumberSlot (.type "tuple") "mul"=pure false:= fillsNumberSlot_seq (id:="tuple.__mul__") (r:=some (.builtin "tuple.__rmul__")) _co.lookup (by decide +kernel) F.slot_tuple_rmul.lookup (by decide +kernel)
theorem kN:seqRepeat? (.type "tuple")=pure (some (.builtin "tuple.__mul__")):=by
 unfold seqRepeat?;rw[seqSlot_of (T:="tuple") (name:="__mul__") (id:="tuple.__mul__") _co.lookup (by decide +kernel),seqSlot_of (T:="tuple") (name:="__rmul__") (id:="tuple.__rmul__") F.slot_tuple_rmul.lookup (by decide +kernel)];rfl
theorem vQ(a:Int)(t:Tok)(l:Addr)(items:Array Value)(n:Nat)(dd:Option Addr)(sl:Array (Option Value)): Meets (Builtin.«int.__rmul__» ⟨[.int a t,.ref l],[]⟩) (λ_ R s=>s.heap.get? l=some {cls:=.type "tuple",dict:=dd,data:=.seq items n,slots:=sl}/\R (.ok (.ret Value.notImplemented)) s):= .of_wp λprog w A R s h=>by obtain⟨hp,g,d,tk,os⟩:=s;obtain⟨hl,h⟩:=h;wp_walk;exact⟨_,rfl,h⟩
end PySem
namespace L2
section
variable {X:Cx}
def zgp:R2:=λx y H Q=>∃l k xs,x=.ref l/\y=.int k/\H l=some (.tup xs)/\1<=k/\xs≠[]/\xs.length*k.toNat<=sizeLine/\ ((k=1->Q (.ref l) H)/\∀p,H p=none->Q (.ref p) (upd H p (.tup (List.replicate k.toNat xs).flatten)))
theorem zd7:OpR X (binaryOp .Mult) zgp:=by
 intro pins s O H x y v u Q I rx ry h;obtain⟨l,k,xs,rfl,rfl,hH,h1,hne,hz,q1,q⟩:=h;cases rx;obtain⟨t,rfl⟩:=ry;obtain⟨z,its,r,o,e,c1,d1,n,w1⟩:=(show yN X.prog X.w H s.heap l (.tup xs) from I.hok l _ hH);obtain⟨cls,dd,data,sl⟩:=o;simp only at c1 d1 w1;subst c1 d1 w1;have hl:xs.length=its.length:=by have:=r.length;omega
 have hp:0<its.length:=by rw[<- hl];exact _cK.mpr hne
 have hk:(k.toNat:Int)=k:=by omega
 have hlen:its.length*k.toNat<=sizeLine:=by rw[<- hl];exact hz
 have hkle:k.toNat<=sizeLine:=_M (Nat.le_mul_of_pos_left _ hp) hlen;have hS:(sizeLine:Nat)<=(2 ^ 63-1) / 8:=by decide
 have hkb:k<2 ^ 63:=by
  have:k.toNat<=(2 ^ 63-1) / 8:=_M hkle hS;omega
 have hm:(its.toArray.size:Int)*k=((its.length*k.toNat:Nat):Int):=by rw[_k,_cB,hk]
 by_cases ho:k=1
 ·subst ho;refine wpAny_binaryOp_repeat_ref (T:="tuple") (U:="int") (by decide) ⟨_,e,rfl⟩ (λs'=>_dy s' 1 t) uQ F.fills_int_mul _cC kN F.slot_int_index.lookup (_ck _cC (_dy s 1 t) F.entry_int_rmul (F.args_int_rmul_2 _ _) (vQ 1 t l its.toArray n _ sl) ⟨e,rfl,⟨_,e,rfl⟩,_ck _co ⟨_,e,rfl⟩ F.entry_tuple_mul (F.args_tuple_mul_2 _ _) (z2i l its.toArray n _ sl t) ⟨e,?_⟩⟩);exact⟨.ref l,H,I,rfl,q1 rfl⟩
 ·have hnew:List.foldl (λx1 x2=>x1++x2) #[] (List.replicate k.toNat its.toArray)=(List.replicate k.toNat its).flatten.toArray:=by
   have:=foldl_rep its k.toNat [];rw[List.nil_append]at this;exact this
  refine wpAny_binaryOp_repeat_ref (T:="tuple") (U:="int") (by decide) ⟨_,e,rfl⟩ (λs'=>_dy s' k t) uQ F.fills_int_mul _cC kN F.slot_int_index.lookup (_ck _cC (_dy s k t) F.entry_int_rmul (F.args_int_rmul_2 _ _) (vQ k t l its.toArray n _ sl) ⟨e,rfl,⟨_,e,rfl⟩,_ck _co ⟨_,e,rfl⟩ F.entry_tuple_mul (F.args_tuple_mul_2 _ _) (z3v l its.toArray n _ sl k t (by omega) hkb (by cases its with | nil=>simp at hp | cons a b=>rfl) (by rw[hm];have:=_M hlen hS;omega) (by rw[hm];unfold Builtin.Tuple.tupleTooMany;exact _O (by omega)) (by rw[hnew,_k,len_rep,_b8];exact hlen)) ⟨e,?_⟩⟩);rw[hnew];have hlz:(List.replicate k.toNat xs).flatten.length<=sizeLine:=by rw[len_rep,_b8];exact hz
  exact⟨.ref _,_,I.laid (o:=.tup (List.replicate k.toNat xs).flatten) (t':=s.toks) (λb u q=>_e _ q) (_f _) ⟨hlz,_,r.rep k.toNat,z70.new _ _⟩,rfl,q _ I.fresh⟩
end
end L2
namespace Dd
open L2
section
variable {X:Cx}{E:XK}
noncomputable def z3D:D->D->Sto->R D
 | .tup xs,.int k,s=>if 1<=k/\xs≠[]/\xs.length*k.toNat<=cap then .ok (.tup (List.replicate k.toNat xs).flatten) s else .no | _,_,_=>.no
theorem zbl:∃r,OpR X (binaryOp .Mult) r/\OpF X E r z3D:=by
 refine⟨_,zd7,?_⟩;intro H Y s d1 d2 v1 v2 Q r h1 h2 h;unfold z3D at h;split at h
 ·rename_i xs k;cases yb h2;split at h
  ·rename_i hl;have hden:=h1;simp only[Den]at h1;obtain⟨a,vs,rfl,e1,e2⟩:=h1;refine⟨a,k,vs,rfl,rfl,e1,hl.1,λz=>?_,by rw[e2.length];exact uJ hl.2.2,λhk=>?_,kH r h (e2.flat_rep _)⟩
   ·subst z;have:=e2.length;exact hl.2.1 (_bZ.mp (by simpa using this.symm))
   ·subst hk;have e:(List.replicate (1:Int).toNat xs).flatten=xs:=by simp
    rw[e]at h;exact h.here r hden
  ·exact h.elim
 ·exact h.elim
@[simp] theorem zbP (xs:List D)(k:Int)(s:Sto):z3D (.tup xs) (.int k) s=if 1<=k/\xs≠[]/\xs.length*k.toNat<=cap then .ok (.tup (List.replicate k.toNat xs).flatten) s else .no:=id rfl
end
end Dd
namespace L2
end L2
namespace Dd
open L2
end Dd
namespace PySem
end PySem
namespace L2
end L2
namespace Dd
open L2
open PySem.W
end Dd
namespace L2
open PySem.Builtin.Str
end L2
namespace Dd
open L2 PySem.Builtin.Str
end Dd
namespace Dd
open L2
section
variable {X:Cx}{E:XK}{es:List Expr}{fa:FE}{fr:FA}
theorem aN{x:Str}{p:Pos}(ha:RE X E (.Name x p) fa)(hr:RA X E es fr):RA X E ((.Name x p)::es) (za fa fr):=jq ha hr (zA ..)
theorem aK{c:Const}{j:Nat}{p:Pos}(ha:RE X E (.Constant c j p) fa)(hr:RA X E es fr):RA X E ((.Constant c j p)::es) (za fa fr):=jq ha hr (z1W ..)
theorem aQ{g:Expr}{xs:List Expr}{ks:List Keyword}{p:Pos}(ha:RE X E (.Call g xs ks p) fa)(hr:RA X E es fr):RA X E ((.Call g xs ks p)::es) (za fa fr):=jq ha hr (wD ..)
theorem aT{xs:List Expr}{k:Nat}{p:Pos}(ha:RE X E (.Tuple xs k p) fa)(hr:RA X E es fr):RA X E ((.Tuple xs k p)::es) (za fa fr):=jq ha hr (z2O ..)
theorem aS{a b:Expr}{p:Pos}(ha:RE X E (.Subscript a b p) fa)(hr:RA X E es fr):RA X E ((.Subscript a b p)::es) (za fa fr):=jq ha hr (qH ..)
theorem aB{a b:Expr}{o:Operator}{p:Pos}(ha:RE X E (.BinOp a o b p) fa)(hr:RA X E es fr):RA X E ((.BinOp a o b p)::es) (za fa fr):=jq ha hr (z5A ..)
theorem aO{a:Expr}{g:List Comprehension}{sc:Scope}{p:Pos}(ha:RE X E (.ListComp a g sc p) fa)(hr:RA X E es fr):RA X E ((.ListComp a g sc p)::es) (za fa fr):=jq ha hr (yB ..)
theorem aM{a:Expr}{o:List CmpOp}{b:List Expr}{p:Pos}(ha:RE X E (.Compare a o b p) fa)(hr:RA X E es fr):RA X E ((.Compare a o b p)::es) (za fa fr):=jq ha hr (z9l ..)
theorem aU{o:UnaryOp}{a:Expr}{p:Pos}(ha:RE X E (.UnaryOp o a p) fa)(hr:RA X E es fr):RA X E ((.UnaryOp o a p)::es) (za fa fr):=jq ha hr (zcD ..)
theorem xV {e:Expr} {pos:Pos} {CX:CXT} {x:Str} {p:Pos} {n k:Nat} {M:Mir} {f:FA} (F:Has X.prog X.w X.K X.mg X.base CX x n M) (hr:z1v k X.A) (hx:Passes CX X E) (ha:RA X E (e::es) f) (hk:n<=k:=by decide) (hg:Gl X x:=by rfl) (hdb:(x==("__debug__":Str))=false:=by decide) (he:starEach (e::es) X.env=(false,eval e X.env)::starEach es X.env:=by rfl) (hpl:(backTo pos (starEach es X.env)).any (·.1)=false:=by rfl):RE X E (.Call (.Name x p) (e::es) [] pos) (ze M f):=z8R F (hr.mono hk) hx hg ha hdb he hpl
end
section
variable {q:Ask}{w:World}{K:W.Frag}{h:Heap}{mg:Str->Option Value}
theorem ym(X:K.In h)(G:h.Ns mainGlobals mg)(e:z9D q K=valS q w)(i:Nat){x:Str}{st:Stmt}(hx:q.fs[i]? = some (x,st)):∃f fd,mg x=some (.ref f)/\Fun K x x st f fd:=let ⟨f,fd,a,F⟩:=zgy e x st (_d hx);⟨f,fd,W.mg_of X G a,F⟩
theorem vf(X:K.In h)(G:h.Ns mainGlobals mg)(e:z9D q K=valS q w)(i:Nat){x:Str}(hx:q.bs[i]? = some x):mg x=none:=W.mg_none_of X G (zfY e x (_d hx))
theorem z5v(X:K.In h)(G:h.Ns mainGlobals mg)(e:z9D q K=valS q w)(i:Nat){x:Str}{c:Int}(hx:q.cs[i]? = some (x,c)):∃t,mg x=some (.int c t):=let ⟨t,z⟩:=zgF e x c (_d hx);⟨t,W.mg_of X G z⟩
end
open PySem.W
end Dd
namespace Dd
open L2
section
variable {X:Cx}{E:XK}{e:Expr}{pos pos':Pos}
noncomputable def zgL(i:Nat)(f:FE):FS:=fun ρ s=>match ρ[i]? with
 | some (some (.int a))=>(f ρ s).bind λd s1=>match d with | .int b=>.ok (.nx (ρ.set i (some (.int (a+b))))) s1 | _=>.no
 | _=>.no
@[simp] theorem zgW {i:Nat}{f:FE}{ρ:Ev}{s:Sto}{a b:Int}{s1:Sto}(h:ρ[i]? = some (some (.int a)))(hf:f ρ s=.ok (.int b) s1):zgL i f ρ s=.ok (.nx (ρ.set i (some (.int (a+b))))) s1:=by simp only[zgL,h,hf,Rb]
end
open PySem.W
end Dd
namespace Dd
open L2
end Dd
namespace L2
end L2
namespace Dd
open L2
section
variable {X:Cx}{E:XK}{o i e value:Expr}{pos pos':Pos}
noncomputable def zc3:FE:=λ_ s=>.ok (.dlo s.length) (s++[[]])
theorem zb8:RE X E (.Dict [] [] pos) zc3:=yh zav λO H Q ⟨Y,ρ,s,r,en,h⟩ p hp=>by
 refine h _ _ _ (yw.layC r hp (o:=.dT []) (.inr (.inl ⟨[],zu,rfl⟩)) rfl) ?_;simp only[Den];exact⟨p,rfl,by rw[<- r.len];simp,.inl ⟨[],zu⟩⟩
end
theorem z9i {prog:Program} {w:World} {A:Around} {E:Value->Shared->Prop} {s:Shared} {it d:Addr} {i ep:Nat} {o:Obj} {es:Array DictEntry} {e:DictEntry} {Q:Option Value->Shared->Prop} (hit:s.heap.IsKeyIter it d i es.size ep) (hod:s.heap.get? d=some o) (hdd:o.data=.dict es ep) (he:es[i]? = some e) (hQ:∀h':Heap,h'.IsKeyIter it d (i+1) es.size ep->Heap.SameBut it s.heap h'->Q (some e.key) {s with heap:=h'}):wpAny (model prog w) A (pyNext (.ref it)) Q E s:=by
 obtain⟨oi,ho,hc,hd⟩:=id hit;refine _a (_cq (_ac hit.typeIs _aH (_af _aH hit.typeIs _cu ?_ (_cp _))));refine _a (_c (_a (_a (_a (_a0 hit.typeIs (_c (_a (wpAny_fieldsOf ho hd ?_))))))));have hown:Builtin.Dict_items.ownsTuple "dict_keyiterator"=false:=by decide +kernel
 rw[hown];simp only[_B,_ab,List.drop_zero];show wpAny _ _ (if (Value.ref d==Value.none)=true then _ else _) _ _ _;rw[_j (by simp)];refine _a (_c (_a (_de hod hdd ?_)));rw[_j (by simp)];refine _a (_c (_a (wpAny_dictEpoch hod hdd ?_)));rw[_j (by simp)];refine _c ?_;have hi:(if (i:Int)<0 then none else es[(i:Int).toNat]?)=some e:=by rw[_j (by omega)];simpa using he
 show wpAny _ _ (match (if (i:Int)<0 then none else es[(i:Int).toNat]?) with | some e=>_ | none=>_) _ _ _;rw[hi];refine _a (_a (_a0 hit.typeIs (_c ?_)));rw[hown];refine _a (wpAny_isOneOf_keyiter hit.typeIs ?_);refine _a (_c0 ho hd (show 1<4 by decide) ?_);have st':∀g:Array Value->Array Value,g #[Value.ref d,Value.int (i:Int) 0,Value.int (es.size:Int) 0,Value.int (ep:Int) 0]=#[Value.ref d,Value.int ((i+1:Nat):Int) 0,Value.int (es.size:Int) 0,Value.int (ep:Int) 0]->(s.heap.update it (Obj.mapFields g)).IsKeyIter it d (i+1) es.size ep:=λg hg=>by
  obtain⟨c0,d0,da,sl⟩:=oi;simp only at hc hd;subst hc hd;refine⟨_,_bh _ ho rfl,rfl,?_⟩;show Data.fields (g _)=_;rw[hg]
 have st2:=st' (λx=>x.setIfInBounds 1 (rawInt ((i:Int)+1))) (by simp[rawInt]);refine _a (_ay ?_);refine _a (wpAny_isOneOf_keyiter st2.typeIs ?_);rw[_g (by decide +kernel)];refine _c (_c ⟨_,rfl,_c ?_⟩);exact hQ _ st2 (_bo ..)
theorem zbG {prog:Program} {w:World} {A:Around} {E:Value->Shared->Prop} {s:Shared} {it d:Addr} {i ep:Nat} {o:Obj} {es:Array DictEntry} {Q:Option Value->Shared->Prop} (hh:A.handled=none) (hit:s.heap.IsKeyIter it d i es.size ep) (hod:s.heap.get? d=some o) (hdd:o.data=.dict es ep) (he:es[i]? = none) (hQ:∀h':Heap,Heap.ExtBut it s.heap h'->Q none {s with heap:=h'}):wpAny (model prog w) A (pyNext (.ref it)) Q E s:=by
 obtain⟨oi,ho,hc,hd⟩:=id hit;refine _a (_cq (_ac hit.typeIs _aH (_af _aH hit.typeIs _cu ?_ (_cp _))));refine _a (_c (_a (_a (_a (_a0 hit.typeIs (_c (_a (wpAny_fieldsOf ho hd ?_))))))));have hown:Builtin.Dict_items.ownsTuple "dict_keyiterator"=false:=by decide +kernel
 rw[hown];simp only[_B,_ab,List.drop_zero];show wpAny _ _ (if (Value.ref d==Value.none)=true then _ else _) _ _ _;rw[_j (by simp)];refine _a (_c (_a (_de hod hdd ?_)));rw[_j (by simp)];refine _a (_c (_a (wpAny_dictEpoch hod hdd ?_)));rw[_j (by simp)];refine _c ?_;have hi:(if (i:Int)<0 then none else es[(i:Int).toNat]?)=none:=by rw[_j (by omega)];simpa using he
 show wpAny _ _ (match (if (i:Int)<0 then none else es[(i:Int).toNat]?) with | some e=>_ | none=>_) _ _ _;rw[hi];refine _a (_a (_a0 hit.typeIs (_c ?_)));rw[hown];refine _a (_c0 ho hd (show 0<4 by decide) ?_);show wpAny _ _ (newExc (.type "StopIteration") [] >>= _) _ _ _;refine _a ?_;simp only[newExc,newTuple];refine _a (_L ?_ (by size_fits));refine _a (m:=firstArgMember _ _) (_cs (a:=Value.none) (by first | rfl | (simp only[firstArgMember];rfl)) ?_);refine _L ?_ (by size_fits);simp only[raiseNew];refine _a (wpAny_handled ?_);first | rw[show A.in1.handled=none from hh] | rw[hh]
 refine _a (_c (wpAny_throw ?_));refine _a (_cm (T:="StopIteration") (b:=true) ⟨_,_t _ rfl,rfl⟩ isSubtype_stop ?_);exact _c (hQ _ (((_bo ..).extBut.push _).push _))
section
variable {prog:Program}{w:World}{A:Around}{E:Value->Shared->Prop}{s:Shared}{d:Addr}{es:Array DictEntry}{ep:Nat}
def zfD(h:Heap)(d:Addr)(es:Array DictEntry)(ep:Nat):Prop:=∃o,h.get? d=some o/\o.ExactDict/\o.data=.dict es ep
theorem zfD.typeIs(h:zfD s.heap d es ep):s.TypeIs (.ref d) "dict":=let ⟨o,ho,hc,_⟩:=h;⟨o,ho,hc.1⟩
theorem zap {Q:Value->Shared->Prop} (hd:(d==sysModules)=false) (hm:zfD s.heap d es ep) (hQ:Q (.ref s.heap.objs.size) {s with heap:=s.heap.push {cls:=.type "dict_keyiterator",data:=.fields #[.ref d,.int 0 0,.int es.size 0,.int ep 0]}}): wpAny (model prog w) A (pyIter (.ref d)) Q E s:=by
 obtain⟨o,ho,hc,hdat⟩:=id hm;have hT:=hm.typeIs;refine wpAny_pyIter_slot hT F.slot_dict_iter (_af F.slot_dict_iter hT F.entry_dict_iter ?_ (F.args_dict_iter_1 _));unfold Builtin.«dict.__iter__»;refine _a ?_;unfold Builtin.Dict.dictSlotNone;refine _a (wpAny_notOrdered_dict hT ?_);show wpAny _ _ (pure (Value.ref d)) _ _ s;refine _c ?_;show wpAny _ _ (Builtin.Dict.showsAll d >>= _) _ _ s;unfold Builtin.Dict.showsAll;rw[_j (by rw[hd];exact _bb)];refine _a (_c (_a (_de ho hdat (_a (wpAny_dictEpoch ho hdat ?_)))));refine _a (_L (_c ⟨_,rfl,"dict_keyiterator",_,⟨_,_t _ rfl,rfl⟩,_aH.lookup,?_⟩));simpa[rawInt] using hQ
end
noncomputable def z9c:List D->Option (List Int)
 | []=>some [] | .int i::r=>(z9c r).map (i::·) | _=>none
noncomputable def zbq:D->Option (List Int)
 | .tup ds=>z9c ds | _=>none
noncomputable def z3k:List D->Option (List (List Int))
 | []=>some [] | d::ds=>match zbq d,z3k ds with | some n,some ns=>some (n::ns) | _,_=>none
theorem z2M:∀ns:List Int,z9c (ns.map D.int)=some ns
 | []=>rfl | i::r=>by simp[z9c,z2M r]
theorem z8u:∀{ds:List D}{ns:List Int},z9c ds=some ns->ds=ns.map D.int
 | [],_,e=>by simp[z9c]at e;subst e;rfl | d::r,ns,e=>by cases d with
  | int i=>
   simp only[z9c,_A]at e;obtain⟨a,h1,rfl⟩:=e;rw[z8u h1];rfl | _=>simp[z9c]at e
theorem z9f(ns:List Int):zbq (.tup (ns.map D.int))=some ns:=z2M ns
theorem zcR{d:D}{ns:List Int}(e:zbq d=some ns):d=.tup (ns.map D.int):=by cases d with
 | tup ds=>simp only[zbq]at e;rw[z8u e] | _=>simp[zbq]at e
theorem z4k:∀L:List (List Int),z3k (L.map λns=>.tup (ns.map D.int))=some L
 | []=>rfl | n::L=>by simp only[_l,z3k,z9f,z4k L]
def AtN(H:Hp)(v:V)(ns:List Int):Prop:=∃b,v=.ref b/\H b=some (.tup (ns.map V.int))
theorem z35{mg:Gm}{H:Hp}{Y:List Addr}{d:D}{v:V}{ns:List Int}(h:zbq d=some ns)(dn:Den mg H Y d v):AtN H v ns:=by
 rw[zcR h]at dn;simp only[Den]at dn;obtain⟨a,vs,rfl,e,dd⟩:=dn;have:∀{ns:List Int}{vs:List V},zq mg H Y (ns.map D.int) vs->vs=ns.map V.int:=by
  intro ns;induction ns with
  | nil=>intro vs h;simpa[zq] using h | cons i r ih=>
   intro vs h;simp only[_l,zq]at h;obtain⟨v,r',rfl,h1,h2⟩:=h;rw[yb h1,ih h2];rfl
 rw[this dd]at e;exact⟨a,rfl,e⟩
theorem z4y{mg:Gm}{H:Hp}{Y:List Addr}:∀{ds:List D}{vs:List V}{L:List (List Int)},z3k ds=some L->zq mg H Y ds vs->Paired (λv ns=>AtN H v ns) vs L
 | [],_,_,h,dn=>by simp only[z3k,_D]at h;simp only[zq]at dn;subst dn;subst h;exact .nil | d::ds,_,_,h,dn=>by
  simp only[zq]at dn;obtain⟨v,vs,rfl,h1,h2⟩:=dn;simp only[z3k]at h;split at h
  ·rename_i n ns e1 e2;cases h;exact .cons (z35 e1 h1) (z4y e2 h2)
  ·cases h
theorem z0K:∀ns:List Int,PyData.canLayAll0 (toPys (ns.map D.int))=true/\PyData.depthAll (toPys (ns.map D.int))<=1
 | []=>by decide | i::k=>by
  have:=z0K k;simp only[_l,wm,toPys,PyData.canLayAll0,PyData.canLay0,PyData.depthAll,PyData.depth,_aG,this.1,true_and];omega
theorem z61:∀a b:List Int,PyData.eqvAll (toPys (a.map D.int)) (toPys (b.map D.int))=decide (a=b)
 | [],[]=>by simp[toPys,PyData.eqvAll] | [],_::_=>by simp[toPys,PyData.eqvAll] | _::_,[]=>by simp[toPys,PyData.eqvAll] | x::a,y::b=>by
  simp only[_l,toPys,wm,PyData.eqvAll,PyData.eqv,z61 a b,_aS];by_cases h:x=y<;>by_cases h2:a=b<;>simp[h,h2]
section
variable {X:Cx}{pins:List (Addr×Obj)}{O:L2.St}{H:Hp}{s:Shared}
theorem AtN.reads (mg:Gm) {h:Heap} {P:Program} {w:World} (ok:HOk P w H h) {v:V} {u:Value} {ns:List Int} (a:AtN H v ns) (r:yq v u):∃as,Reads h u (wm (.tup (ns.map D.int))) as:=by
 refine Den.reads (mg:=mg) (Y:=[]) (H:=H) (v:=v) ok (by simp only[wm,PyData.canLay0];exact (z0K ns).1) ?_ r;obtain⟨b,rfl,e⟩:=a;simp only[Den];refine⟨b,_,rfl,e,?_⟩;clear e;induction ns with
 | nil=>exact zq.nil | cons i r ih=>exact zq.cons yW ih
theorem AtN.eqAt(mg:Gm){A:Around}{P:Program}{w:World}(ok:HOk P w H s.heap)(hu:A.units+2<cLine){v x:V}{u y:Value}{ns ms:List Int}(a:AtN H v ns)(r:yq v u)(b:AtN H x ms)(q:yq x y): SeqAt.EqAt A s u y (decide (ns=ms)):=by
 obtain⟨as,ra⟩:=a.reads mg ok r;obtain⟨bs,rb⟩:=b.reads mg ok q;have h:=SeqAt.eqAt_reads _ _ A s u y as bs ra rb (by simp only[wm,PyData.canLay0];exact (z0K ns).1) (by simp only[wm,PyData.canLay0];exact (z0K ms).1) (by
  have h1:=(z0K ns).2;have h2:min (wm (.tup (ns.map D.int))).depth (wm (.tup (ms.map D.int))).depth<=(wm (.tup (ns.map D.int))).depth:=Nat.min_le_left _ _;have h3:(wm (.tup (ns.map D.int))).depth<=2:=by simp only[wm,PyData.depth];omega
  omega);rw[show PyData.eqv (wm (.tup (ns.map D.int))) (wm (.tup (ms.map D.int)))=decide (ns=ms) by simp only[wm,PyData.eqv,z61]]at h;exact h
end
end Dd
namespace L2
open PySem.Builtin.Str
end L2
namespace Dd
open L2 PySem.Builtin.Str
end Dd
namespace Zz
noncomputable abbrev T1(b1:Bool)(h:Heap)(l1:Addr):Heap:=h.push (itO b1 l1)
noncomputable abbrev T2(b1 b2:Bool)(h:Heap)(l1 l2:Addr):Heap:=(T1 b1 h l1).push (itO b2 l2)
end Zz
namespace L2
open Zz
end L2
namespace Dd
open L2
noncomputable def lexN:List Int->List Int->Bool
 | [],[]=>false | [],_::_=>true | _::_,[]=>false | x::a,y::b=>if x=y then lexN a b else decide (x<y)
inductive yy:List Value->List Int->Prop | nil:yy [] [] | cons {i t vs ns}:yy vs ns->yy (.int i t::vs) (i::ns)
theorem yy.of_vals:∀{ns:List Int}{us:List Value},yF (ns.map V.int) us->yy us ns
 | [],_,.nil=>.nil | _::_,_,.cons ⟨_,rfl⟩ r=>.cons (yy.of_vals r)
theorem yy.length:∀{us ns},yy us ns->us.length=ns.length
 | _,_,.nil=>rfl | _,_,.cons r=>by simp[r.length]
section
variable {prog:Program}{w:World}{A:Around}{E:Value->Shared->Prop}{s:Shared}
theorem z58{a b:Addr}{xs ys:Array Value}{ns ms:List Int}{P:PySem.Fin->Shared->Prop}(ha:s.heap.IsTuple a xs)(hb:s.heap.IsTuple b ys)(hx:yy xs.toList ns)(hy:yy ys.toList ms) (h:P (.done (.ret (.bool (lexN ns ms)))) s):wpAny (model prog w) A (Builtin.«tuple.__lt__» ⟨[.ref a,.ref b],[]⟩) P E s:=by
 obtain⟨oa,ga,ca,na,da⟩:=ha;obtain⟨ob,gb,cb,nb,db⟩:=hb;have tb:s.TypeIs (.ref b) "tuple":=⟨ob,gb,cb⟩;show wpAny _ _ (isInstance (.ref b) (.type "tuple") >>= _) _ _ s;refine _a (_cm tb isSubtype_tuple_tuple ?_);simp only[_bn,_B,_ab];refine _a (_bS ga da (_a (_bS gb db (_a ?_))));refine _do _ (λz0h r s'=>r.1=none/\s'=s/\∃us vs ns' ms',z0h=List.zip us vs/\yy us ns'/\yy vs ms'/\lexN ns' ms'=lexN ns ms/\(decide (us.length<vs.length))=decide (xs.size<ys.size)) _ ?_ ?_ _ _ ⟨rfl,rfl,xs.toList,ys.toList,ns,ms,rfl,hx,hy,rfl,by simp⟩
 ·rintro⟨u,v⟩ z0h r s' ⟨hr,rfl,us,vs,ns',ms',hz,h1,h2,hl,hs⟩;cases h1 with
  | nil=>simp at hz | @cons i t us' ns'' h1'=>cases h2 with
   | nil=>simp at hz | @cons j t' vs' ms'' h2'=>
    simp only[_bv,_aS,_aX]at hz;obtain⟨⟨rfl,rfl⟩,rfl⟩:=hz;refine _a (_dm ?_);by_cases e:i=j
    ·subst e;simp only[beq_self_eq_true,_bn,_B,_ab];exact _c ⟨rfl,rfl,us',vs',ns'',ms'',rfl,h1',h2',by rw[<- hl];simp[lexN],by simpa using hs⟩
    ·rw[show (i==j)=false by simpa using e];simp only[_c2,_N];have hf:lexN ns ms=decide (i<j):=by rw[<- hl];simp[lexN,e]
     rw[hf]at h;refine _a (_at (_a (show wpAny _ _ (compareOp .Lt (.int i t) (.int j t')) _ _ _ from _cH ?_)));exact _a (_c (_c (_c h)))
 ·rintro⟨r1,r2⟩ s' ⟨hr,rfl,us,vs,ns',ms',hz,h1,h2,hl,hs⟩;simp only at hr;subst hr;refine _c ?_;have hfin:decide (xs.size<ys.size)=lexN ns ms:=by
   rw[<- hl,<- hs];cases h1 with
   | nil=>cases h2<;>simp[lexN] | cons _=>cases h2 with
    | nil=>simp[lexN] | cons _=>simp at hz
  show P (.done (.ret (.bool (decide (xs.size<ys.size))))) s';rw[hfin];exact h
theorem z62{a b:Addr}{xs ys:Array Value}{ns ms:List Int}{Q:Value->Shared->Prop}(hu:A.units<cLine)(ha:s.heap.IsTuple a xs)(hb:s.heap.IsTuple b ys)(hx:yy xs.toList ns)(hy:yy ys.toList ms) (h:Q (.bool (lexN ns ms)) s):wpAny (model prog w) A (richCompare .Lt (.ref a) (.ref b)) Q E s:=by
 have ta:s.TypeIs (.ref a) "tuple":=by obtain⟨o,g,c,_⟩:=ha;exact⟨o,g,c⟩
 have tb:s.TypeIs (.ref b) "tuple":=by obtain⟨o,g,c,_⟩:=hb;exact⟨o,g,c⟩
 refine wpAny_richCompare_same_room ta tb _bg (_af _bg ta _b3 ?_ (_bV _ _)) hu;exact z58 ha hb hx hy ⟨_,rfl,by simp,h⟩
end
end Dd
namespace L2
end L2
namespace Dd
open L2
section
variable {X:Cx}{E:XK}
theorem z1R{α β:Type}{R:α->β->Prop}:∀{xs:List α}{ys:List β},Paired R xs ys->∀(i:Nat)(x:α),xs[i]? = some x->∃y,ys[i]? = some y/\R x y
 | _,_,.nil,i,x,e=>by simp at e | _,_,.cons h r,0,x,e=>by simp at e;subst e;exact⟨_,rfl,h⟩ | _,_,.cons h r,i+1,x,e=>by simpa using z1R r i x (by simpa using e)
theorem jV{α β:Type}{R:α->β->Prop}:∀{xs:List α}{ys:List β},Paired R xs ys->xs.length=ys.length
 | _,_,.nil=>rfl | _,_,.cons h r=>by simp[jV r]
theorem AtN.tuple{pins:List (Addr×Obj)}{O:L2.St}{H:Hp}{s:Shared}(I:Inv X pins O H s){v:V}{u:Value}{ns:List Int}(a:AtN H v ns)(r:yq v u):∃b its,v=.ref b/\u=.ref b/\s.heap.IsTuple b its/\yy its.toList ns:=by
 obtain⟨b,rfl,e⟩:=a;cases (show u=Value.ref b from r);obtain⟨its,r,pl,hz⟩:=I.tuple (.inl (.inl e));exact⟨b,its.toArray,rfl,rfl,pl,yy.of_vals (by simpa using r)⟩
end
end Dd
namespace L2
section
variable {prog:Program}{w:World}{A:Around}{R:Result->Shared->Prop}{s:Shared}{elt t1 i1 t2 i2:Expr}{scope:Scope}{pos:Pos}{it acc:Value}{env:Env}
theorem z7r:compTurn (.ListComp elt [⟨t1,i1,[],0⟩,⟨t2,i2,[],0⟩] scope pos) 0 it acc env=(standAt i1.pos >>= λ_=>pyNext it >>= λr=>match r with
  | none=>pure (.done .next) | some v=>letOwnedTupleGo t1 it v >>= λ_=>assign t1 env v >>= λ_=>eval i2 env >>= λx=>standAt i2.pos >>= λ_=>foldedSetIterable i2 env x >>= λx=>holding [x] (pyIter x) >>= λjt=> runOwn (.compStart (.ListComp elt [⟨t1,i1,[],0⟩,⟨t2,i2,[],0⟩] scope pos) 1 jt acc env) env >>= λ_=>again (.compLoop (.ListComp elt [⟨t1,i1,[],0⟩,⟨t2,i2,[],0⟩] scope pos) 0 it acc env)):=by rfl
theorem z7v:compTurn (.ListComp elt [⟨t1,i1,[],0⟩,⟨t2,i2,[],0⟩] scope pos) 1 it acc env=(standAt i2.pos >>= λ_=>pyNext it >>= λr=>match r with
  | none=>pure (.done .next) | some v=>letOwnedTupleGo t2 it v >>= λ_=>assign t2 env v >>= λ_=>(eval elt env >>= λx=>call (.builtin "list.append") [acc,x] >>= λ_=>pure ()) >>= λ_=> again (.compLoop (.ListComp elt [⟨t1,i1,[],0⟩,⟨t2,i2,[],0⟩] scope pos) 1 it acc env)):=by rfl
theorem z7m(I:Nat->Shared->Prop) (turn:∀n s,I n s->wpAny (model prog w) A (pyNext it) (λr s₁=>match r with
   | none=>R (.ok .next) s₁ | some v=>wpAny (model prog w) A (letOwnedTupleGo t2 it v) (λ_ s₁'=>wpAny (model prog w) A (assign t2 env v) (λ_ s₂=>wpAny (model prog w) A (eval elt env) (λx s₄=> wpAny (model prog w) A (call (.builtin "list.append") [acc,x]) (λ_ s₅=>∃m,m<n/\I m s₅) (λ_ _=>False) s₄) (λ_ _=>False) s₂) (λ_ _=>False) s₁') (λ_ _=>False) s₁) (λ_ _=>False) s) (n:Nat)(h:I n s):codeAny (model prog w) A (.compLoop (.ListComp elt [⟨t1,i1,[],0⟩,⟨t2,i2,[],0⟩] scope pos) 1 it acc env) R s:=by
 refine codeAny_loop rfl I (λn s hI=>?_) n h;show wpAny _ A ((compTurn (.ListComp elt [⟨t1,i1,[],0⟩,⟨t2,i2,[],0⟩] scope pos) 1 it acc env).onRaise (λx=>do noteFrame x env;theTreesLotGoes x)) _ _ s;refine wpAny_noted ?_;rw[z7v];refine _a (_aM (_a (_z (turn n s hI) (λr s₁ h₁=>?_) λ_ _ h'=>h'.elim)));cases r with
 | none=>exact _c h₁ | some v=>
  refine _a (_z h₁ (λ_ s₁' h₁'=>_a (_z h₁' (λ_ s₂ h₂=>?_) λ_ _ h'=>h'.elim)) λ_ _ h'=>h'.elim);exact _a (_a (_z h₂ (λx s₄ h₄=>_a (_z h₄ (λ_ s₅ h₅=>_c (_c ⟨rfl,h₅⟩)) λ_ _ h'=>h'.elim)) λ_ _ h'=>h'.elim))
theorem z6x(h0:codeAny (model prog w) A (.compLoop (.ListComp elt [⟨t1,i1,[],0⟩,⟨t2,i2,[],0⟩] scope pos) 1 it acc env) R s) (h:wpAny (model prog w) A (pyIter it) (λit' s'=>codeAny (model prog w) A (.compLoop (.ListComp elt [⟨t1,i1,[],0⟩,⟨t2,i2,[],0⟩] scope pos) 1 it' acc env) R s') (notedBy (model prog w) A env λx s'=>R (.error x) s') s): codeAny (model prog w) A (.compStart (.ListComp elt [⟨t1,i1,[],0⟩,⟨t2,i2,[],0⟩] scope pos) 1 it acc env) R s:=by
 refine codeAny_of_tree ?_;show wpAny _ _ ((compStart (.ListComp elt [⟨t1,i1,[],0⟩,⟨t2,i2,[],0⟩] scope pos) 1 it acc env).onRaise (λx=>do noteFrame x env;standAt theWindowsPlace)) _ _ s;refine wpAny_notedAt ?_;unfold compStart;show wpAny _ _ (ask >>= _) _ _ s;refine _a (wpAny_askSetting (wpAny_ite ?_));split;·first
   | exact _a (_c (_c (And.intro rfl h0))) | exact _c (And.intro rfl h0)
 ·first
   | exact _a (_at (_a (_aM (_a (_z h (λit' s' h'=>_c (And.intro rfl h')) λ_ _ x=>x))))) | (refine _a (_at ?_);show wpAny _ _ (standAt i2.pos >>= _) _ _ s;exact _a (_aM (_a (_z h (λit' s' h'=>_c (And.intro rfl h')) λ_ _ x=>x))))
theorem z7W(hs2:∀x,foldedSetIterable i2 env x=pure x)(I:Nat->Shared->Prop) (turn:∀n s,I n s->wpAny (model prog w) A (pyNext it) (λr s₁=>match r with
   | none=>R (.ok .next) s₁ | some v=>wpAny (model prog w) A (letOwnedTupleGo t1 it v) (λ_ s₁'=>wpAny (model prog w) A (assign t1 env v) (λ_ s₂=>wpAny (model prog w) A (eval i2 env) (λx s₃=>wpAny (model prog w) A (pyIter x) (λjt s₄=> codeAny (model prog w) A (.compStart (.ListComp elt [⟨t1,i1,[],0⟩,⟨t2,i2,[],0⟩] scope pos) 1 jt acc env) (λr s₅=>match r with | .ok _=>∃m,m<n/\I m s₅ | .error _=>False) s₄) (λ_ _=>False) s₃) (λ_ _=>False) s₂) (λ_ _=>False) s₁') (λ_ _=>False) s₁) (λ_ _=>False) s) (n:Nat)(h:I n s):codeAny (model prog w) A (.compLoop (.ListComp elt [⟨t1,i1,[],0⟩,⟨t2,i2,[],0⟩] scope pos) 0 it acc env) R s:=by
 refine codeAny_loop rfl I (λn s hI=>?_) n h;show wpAny _ A ((compTurn (.ListComp elt [⟨t1,i1,[],0⟩,⟨t2,i2,[],0⟩] scope pos) 0 it acc env).onRaise (λx=>do noteFrame x env;theTreesLotGoes x)) _ _ s;refine wpAny_noted ?_;rw[z7r];refine _a (_aM (_a (_z (turn n s hI) (λr s₁ h₁=>?_) λ_ _ h'=>h'.elim)));cases r with
 | none=>exact _c h₁ | some v=>
  refine _a (_z h₁ (λ_ s₁' h₁'=>_a (_z h₁' (λ_ s₂ h₂=>?_) λ_ _ h'=>h'.elim)) λ_ _ h'=>h'.elim);refine _a (_z h₂ (λx s₃ h₃=>_a (_aM (_a (_cs (hs2 x) ?_)))) λ_ _ h'=>h'.elim);refine _a (_ay (_z h₃ (λjt s₄ h₄=>?_) λ_ _ h'=>h'.elim));refine _a (wpAny_runOwn (_dw h₄ λr s₅ h₅=>?_));cases r with
  | ok f=>exact _c ⟨rfl,h₅⟩ | error e=>exact h₅.elim
end
def zbr(wi:TI)(mp:List (Option Nat))(k1 k2:Nat)(wi2:TI)(te:TE):TE:=λO H Q=>wi O H λJ H1=>∃W:Nat->Nat->List V->Hp->Prop,(∃m,W 0 m [] H1)/\∀i m ys H,W i m ys H-> (J.stop i H/\ys.length<=sizeLine/\∀p,H p=none->Q (.ref p) (upd H p (.lst ys)))\/ (J.go i H/\∀x H',J.yld i H x H'->wi2 ((inner mp O).set k1 (some x)) H' λJ2 H3=>∃W2:Nat->Nat->List V->Hp->Prop,(∃m2,W2 0 m2 ys H3)/\∀j m2 ys2 H4,W2 j m2 ys2 H4-> (J2.stop j H4/\∃m',m'<m/\W (i+1) m' ys2 H4)\/ (J2.go j H4/\∀x2 H5,J2.yld j H4 x2 H5->te (((inner mp O).set k1 (some x)).set k2 (some x2)) H5 λy H6=>ys2.length<=sizeLine/\∃m',m'<m2/\W2 (j+1) m' (ys2++[y]) H6))
theorem z3x{O:St}{i:Nat}{v:V}(h:O[i]? = some none):(O.set i (some v)).length=O.length/\∀(j:Nat) u,O[j]? = some (some u)->(O.set i (some v))[j]? = some (some u):=by
 refine⟨by simp,λj u e=>?_⟩;have:i≠j:=λz=>by subst z;rw[h]at e;cases e
 rw[_I this];exact e
theorem z4V {X:Cx} {tg iter tg2 iter2 elt:Expr} {scope:Scope} {pos:Pos} {wi2:TI} {te:TE} {N':List Str} {mp:List (Option Nat)} {k1 k2:Nat} {pins:List (Addr×Obj)} {O:St} {Q:VK} {J:It} {H2:Hp} {s₂:Shared} {it:Addr} {fp:List Addr} {tn:Nat->Heap->Prop} {E:Value->Shared->Prop} {RR:Value->Addr->Result->Shared->Prop} (hc:X.calm=true) (hm1:mp[k1]? = some none) (hm2:mp[k2]? = some none) (hk:k1≠k2) (hg:∀ex s H,PG (zp X N' scope ex s H) tg (kY k1)) (hg2:∀ex s H,PG (zp X N' scope ex s H) tg2 (kY k2)) (hi2:∀ex s H,PI (zp X N' scope ex s H) tg2 iter2 wi2) (he:∀ex s H,PE (zp X N' scope ex s H) elt te) (hs2:∀env x,foldedSetIterable iter2 env x=pure x) (hkd:scope.kind=.function) (hnm:∀y∈scope.names,scope.names.lookup y.1=some y.2) (hfr:∀y∈scope.names,y.2=.free->X.env.kindOf y.1=some .cell\/X.env.kindOf y.1=some .free) (hmp:z0s X.N scope.names N' mp=true) (I2:Inv X pins O H2 s₂) (T:zaY X.prog X.w X.K tg J fp it tn) (st2:tn 0 s₂.heap) (f2:∀b∈fp,z25 X pins H2 b) (W:Nat->Nat->List V->Hp->Prop) (w0:∃m,W 0 m [] H2) (turn:∀i m ys H,W i m ys H-> (J.stop i H/\ys.length<=sizeLine/\∀p,H p=none->Q (.ref p) (upd H p (.lst ys)))\/ (J.go i H/\∀x H',J.yld i H x H'->wi2 ((inner mp O).set k1 (some x)) H' λJ2 H3=>∃W2:Nat->Nat->List V->Hp->Prop,(∃m2,W2 0 m2 ys H3)/\∀j m2 ys2 H4,W2 j m2 ys2 H4-> (J2.stop j H4/\∃m',m'<m/\W (i+1) m' ys2 H4)\/ (J2.go j H4/\∀x2 H5,J2.yld j H4 x2 H5->te (((inner mp O).set k1 (some x)).set k2 (some x2)) H5 λy H6=>ys2.length<=sizeLine/\∃m',m'<m2/\W2 (j+1) m' (ys2++[y]) H6))) (hRR:∀acc C s',jn X pins O C Q acc s'->RR acc C (.ok .next) s'): wpAny (model X.prog X.w) X.A (newList []) (λacc s₃=>wpAny (model X.prog X.w) X.A (newFunctionEnv scope X.env.globals (z2L X.env scope.names []) [] X.env.qual none .none (some X.env)) (λcenv s₄=> codeAny (model X.prog X.w) X.A (.compStart (.ListComp elt [⟨tg,iter,[],0⟩,⟨tg2,iter2,[],0⟩] scope pos) 0 (.ref it) acc {cenv with scope:=relabel scope X.env}) (RR acc cenv.locals) s₄) E s₃) E s₂:=by
 refine _L ?_;have hf2:H2 s₂.heap.objs.size=none:=I2.hok.fresh (_f _);have fA:z25 X pins H2 s₂.heap.objs.size:=I2.fpOk (_f _) hf2;generalize hacc:s₂.heap.objs.size=acc at hf2 fA ⊢;have I3:Inv X pins O H2 {s₂ with heap:=s₂.heap.push {cls:=.type "list",data:=.seq ([]:List Value).toArray}}:=I2.kept (t':=s₂.toks) λb o e=>_e _ e;have ha3:(s₂.heap.push {cls:=.type "list",data:=.seq ([]:List Value).toArray}).get? acc=some (LCg.lst []):=by rw[<- hacc];exact _t _ rfl
 have sz3:(s₂.heap.push {cls:=.type "list",data:=.seq ([]:List Value).toArray}).objs.size=acc+1:=by rw[_aw,hacc]
 have kp3:∀b o,s₂.heap.get? b=some o->(s₂.heap.push {cls:=.type "list",data:=.seq ([]:List Value).toArray}).get? b=some o:=λb o e=>_e _ e;show wpAny _ _ _ _ _ {s₂ with heap:=s₂.heap.push {cls:=.type "list",data:=.seq ([]:List Value).toArray}};generalize hs3:({s₂ with heap:=s₂.heap.push {cls:=.type "list",data:=.seq ([]:List Value).toArray}}:Shared)=s₃ at I3 ⊢;have ha3':s₃.heap.get? acc=some (LCg.lst []):=by rw[<- hs3];exact ha3
 have sz3':s₃.heap.objs.size=acc+1:=by rw[<- hs3];exact sz3
 have kp3':∀b o,s₂.heap.get? b=some o->s₃.heap.get? b=some o:=by rw[<- hs3];exact kp3
 have flt:∀b∈fp,b<acc:=λb hb=>by
  obtain⟨o,e,_⟩:=T.obj 0 _ st2 b hb;rw[<- hacc];exact _r e
 have fne:∀b∈fp,b≠acc:=λb hb=>_G (flt b hb);have tn3:tn 0 s₃.heap:=T.keep 0 _ _ st2 λb hb o e=>kp3' b o e;refine z1j ?_;rw[xW];have hex:∀b∈acc::fp,b<s₃.heap.objs.size/\H2 b=none/\b≠X.env.locals/\b∉X.fs/\(b∈X.ex\/X.s₀.heap.objs.size<=b)/\(∀x c,X.env.cells.lookup x=some c->c≠b):=λb hb=>by
  rcases _h.mp hb with z | hb
  ·subst z;exact⟨by rw[sz3'];exact _bK _,hf2,fA.2.1,fA.2.2.1,fA.2.2.2.1,fA.2.2.2.2.1⟩
  ·have q:=f2 b hb;exact⟨by rw[sz3'];exact _aN (flt b hb),q.1,q.2.1,q.2.2.1,q.2.2.2.1,q.2.2.2.2.1⟩
 have I4:=z20 (N':=N') (mp:=mp) (ex:=acc::fp) (s1:={s₃ with heap:=pushCells (s₃.heap.push {cls:=.type "dict",data:=.dict #[]}) scope.names}) I3 hkd hnm hfr hmp hex rfl rfl rfl;have kp4:∀b o,s₃.heap.get? b=some o->(pushCells (s₃.heap.push {cls:=.type "dict",data:=.dict #[]}) scope.names).get? b=some o:=λb o e=>_cy _ _ b o (_e _ e);generalize hs4:({s₃ with heap:=pushCells (s₃.heap.push {cls:=.type "dict",data:=.dict #[]}) scope.names}:Shared)=s₄ at I4 ⊢;have ha4:s₄.heap.get? acc=some (LCg.lst []):=by rw[<- hs4];exact kp4 _ _ ha3'
 have tn4:tn 0 s₄.heap:=T.keep 0 _ _ tn3 λb hb o e=>by rw[<- hs4];exact kp4 b o e
 have Cne:acc≠s₃.heap.objs.size:=by rw[sz3'];exact _G (_bK _)
 have celln:∀b∈acc::fp,∀x c,(z5e X scope s₃.heap.objs.size).cells.lookup x=some c->c≠b:=λb hb=>(I4.ok.exf b hb).2;have stat:∀{H':Hp} {o:Obj},(∀b∈fp,H' b=none)->∀b∈fp,z25 (zp X N' scope (acc::fp) s₃ H2) [(acc,o)] H' b:=λ{H' o} hn b hb=> ⟨hn b hb,_G (by show b<s₃.heap.objs.size;rw[sz3'];exact _aN (flt b hb)),λhf=>I4.ok.exfs b (_C _ hb) hf,.inl (_C _ hb),celln b (_C _ hb),λp hp=>by
   have e:p=(acc,o):=by simpa[zp] using hp
   rw[e];exact _a1 (fne b hb)⟩;have accP:∀(its:List Value) (v:Option Value),(LCg.lst its).data≠.cell v:=λits v z=>by
  have z':Data.seq _ _=Data.cell v:=z;cases z'
 have pinA:∀{P:List (Addr×Obj)} {O':St} {H':Hp} {s':Shared} {its:List Value},Inv (zp X N' scope (acc::fp) s₃ H2) P O' H' s'->H' acc=none->s'.heap.get? acc=some (LCg.lst its)->Inv (zp X N' scope (acc::fp) s₃ H2) ([(acc,LCg.lst its)]++P) O' H' s':=λ{P O' H' s' its} J' n' e'=> J'.pins_of λp hp=>by
   rcases _E.mp hp with hp | hp
   ·have e:p=(acc,LCg.lst its):=by simpa using hp
    subst e;exact⟨e',n',Cne,λhf=>I4.ok.exfs acc _U hf,accP its⟩
   ·exact J'.pin p (_x _ hp)
 obtain⟨m0,w0⟩:=w0;have loop:codeAny (model X.prog X.w) X.A (.compLoop (.ListComp elt [⟨tg,iter,[],0⟩,⟨tg2,iter2,[],0⟩] scope pos) 0 (.ref it) (.ref acc) (z5e X scope s₃.heap.objs.size)) (RR (.ref acc) s₃.heap.objs.size) s₄:=by
  refine z7W (hs2 _) (λn s'=>∃i ys its H',Inv (zp X N' scope (acc::fp) s₃ H2) [] (inner mp O) H' s'/\tn i s'.heap/\(∀b∈fp,H' b=none)/\H' acc=none/\s'.heap.get? acc=some (LCg.lst its)/\yF ys its/\W i n ys H') ?_ m0 ⟨0,[],[],H2,I4,tn4,λb hb=>(f2 b hb).1,hf2,ha4,.nil,w0⟩;rintro n s5 ⟨i,ys,its,H5,I5,tn5,n5,na5,ea5,rv5,w5⟩;have I5':Inv (zp X N' scope (acc::fp) s₃ H2) [(acc,LCg.lst its)] (inner mp O) H5 s5:=pinA I5 na5 ea5;rcases turn i n ys H5 w5 with⟨stop,hz,q⟩ | ⟨go,step⟩
  ·refine _z (T.done (zp X N' scope (acc::fp) s₃ H2) rfl rfl rfl hc i _ s5 _ H5 (λ_ _=>False) I5' (stat n5) tn5 stop) (λr s6 ⟨hr,I6⟩=>?_) λ_ _ z=>z;subst hr;have ea6:=(I6.pin (acc,LCg.lst its) (by simp)).1;have un:Un (frs X.stack) (acc::fp) H2 H5 s₃.heap s6.heap:=I6.base;have I7:Inv X pins O H5 s6:=I3.call' (s':=s6) (I6.os) un I6.hok I6.bare λb hb=>by
    rcases _h.mp hb with z | hb;·subst z;exact⟨fA.2.2.2.1,fA.2.1,fA.2.2.2.2.1,fA.2.2.2.2.2⟩
    ·exact⟨(f2 b hb).2.2.2.1,(f2 b hb).2.1,(f2 b hb).2.2.2.2.1,(f2 b hb).2.2.2.2.2⟩
   have C7:z25 X pins H5 s₃.heap.objs.size:=I3.fpOk (_f _) I6.free;refine hRR _ _ s6 ⟨.ref acc,upd H5 acc (.lst ys),I7.track ⟨na5,fA.2⟩ ?_,rfl,q acc na5,?_,?_,C7.2⟩;·exact⟨hz,its,_,rv5,ea6⟩
   ·obtain⟨m,hm,_⟩:=I6.loc;exact⟨m,hm⟩
   ·rw[zg (_a1 Cne)];exact I6.free
  ·refine _z (T.item (zp X N' scope (acc::fp) s₃ H2) rfl rfl rfl hc i _ s5 _ H5 (λ_ _=>False) I5' (stat n5) tn5 go) (λr s6 ⟨u,hr,h6⟩=>?_) λ_ _ z=>z;subst hr;refine _z h6 (λ_ s7 ⟨x,H7,I7,r7,y7,tn7,n7⟩=>?_) λ_ _ z=>z;have I7':=I7.pinned (stat n7) (T.obj _ _ tn7);generalize hP:z1V fp s7.heap=P7 at I7';have inP:∀b∈fp,∀o,s7.heap.get? b=some o->(b,o)∈P7:=λb hb o e=>by rw[<- hP];exact vZ hb e
   have back:∀{O':St} {H':Hp} {s':Shared} {its':List Value},Inv (zp X N' scope (acc::fp) s₃ H2) ([(acc,LCg.lst its')]++P7) O' H' s'->(∀b∈fp,H' b=none)/\H' acc=none/\s'.heap.get? acc=some (LCg.lst its')/\tn (i+1) s'.heap:=λ{O' H' s' its'} J'=>by
    have z:=J'.pin (acc,LCg.lst its') (by simp[zp]);have zz:∀b∈fp,∀o,s7.heap.get? b=some o->s'.heap.get? b=some o/\H' b=none:=λb hb o e=>by
     have y:=J'.pin (b,o) (_x _ (_x _ (inP b hb o e)));exact⟨y.1,y.2.1⟩
    refine⟨λb hb=>?_,z.2.1,z.1,T.keep _ _ _ tn7 λb hb o e=>(zz b hb o e).1⟩;obtain⟨o,e,_⟩:=T.obj _ _ tn7 b hb;exact (zz b hb o e).2
   have ow1:(inner mp O)[k1]? = some none:=by simp[L2.inner,hm1]
   have kp1:=z3x (v:=x) ow1;have ow2:((inner mp O).set k1 (some x))[k2]? = some none:=by rw[_I hk];simp[L2.inner,hm2]
   refine _z (hg _ _ _ _ s7 (inner mp O) H7 x u (λO8 H8=>O8=(inner mp O).set k1 (some x)/\H8=H7) I7' r7 ⟨rfl,rfl⟩) (λ_ s8 ⟨O8,H8,I8,e8,e8'⟩=>?_) λ_ _ z=>z;subst e8 e8';refine _z (hi2 _ _ _ _ s8 _ H8 _ I8 (step x H8 y7)) (λxv s9 h9=>?_) λ_ _ z=>z;refine _z h9 (λjt s10 h10=>?_) λ_ _ z=>z;obtain⟨it2,fp2,tn2,J2,H10,e10,I10,T2,st10,f10,W2,⟨m2,v0⟩,turn2⟩:=h10;subst e10;obtain⟨_,na10,ea10,_⟩:=back I10;have stat2:∀{H':Hp} {its':List Value},(∀b∈fp2,H' b=none)->∀b∈fp2,z25 (zp X N' scope (acc::fp) s₃ H2) ([(acc,LCg.lst its')]++P7) H' b:=λ{H' its'} hn b hb=>by
    obtain⟨q1,q2,q3,q4,q5,q6⟩:=f10 b hb;refine⟨hn b hb,q2,q3,q4,q5,λp hp=>?_⟩;rcases _E.mp hp with hp | hp;·exact q6 p (_aY _ hp)
    ·rcases _E.mp hp with hp | hp
     ·have e:p=(acc,LCg.lst its'):=by simpa using hp
      rw[e];exact q6 (acc,LCg.lst its) (_x _ (_aY _ (by simp)))
     ·exact q6 p (_x _ (_x _ hp))
   have unA:∀{O':St} {H':Hp} {s':Shared} {its':List Value},Inv (zp X N' scope (acc::fp) s₃ H2) ([(acc,LCg.lst its')]++P7) O' H' s'->Inv (zp X N' scope (acc::fp) s₃ H2) P7 O' H' s':=λJ'=>J'.pins_of λp hp=>J'.pin p (_x _ (_x _ hp));have zac:codeAny (model X.prog X.w) X.A (.compLoop (.ListComp elt [⟨tg,iter,[],0⟩,⟨tg2,iter2,[],0⟩] scope pos) 1 (.ref it2) (.ref acc) (z5e X scope s₃.heap.objs.size)) (λr s'=>match r with | .ok _=>∃m,m<n/\∃i ys its H',Inv (zp X N' scope (acc::fp) s₃ H2) [] (inner mp O) H' s'/\tn i s'.heap/\(∀b∈fp,H' b=none)/\H' acc=none/\s'.heap.get? acc=some (LCg.lst its)/\yF ys its/\W i m ys H' | .error _=>False) s10:=by
    refine z7m (λn' s'=>∃j ys2 its2 H',Inv (zp X N' scope (acc::fp) s₃ H2) P7 ((inner mp O).set k1 (some x)) H' s'/\tn2 j s'.heap/\(∀b∈fp2,H' b=none)/\H' acc=none/\s'.heap.get? acc=some (LCg.lst its2)/\yF ys2 its2/\W2 j n' ys2 H') ?_ m2 ⟨0,ys,its,H10,unA I10,st10,λb hb=>(f10 b hb).1,na10,ea10,rv5,v0⟩;rintro n' s11 ⟨j,ys2,its2,H11,I11,tn11,n11,na11,ea11,rv11,v11⟩;have I11':=pinA I11 na11 ea11;rcases turn2 j n' ys2 H11 v11 with⟨stop2,m',lt,w12⟩ | ⟨go2,step2⟩
    ·refine _z (T2.done (zp X N' scope (acc::fp) s₃ H2) rfl rfl rfl hc j _ s11 _ H11 (λ_ _=>False) I11' (stat2 n11) tn11 stop2) (λr s12 ⟨hr,I12⟩=>?_) λ_ _ z=>z;subst hr;obtain⟨z1,z2,z3,z4⟩:=back I12;exact⟨m',lt,i+1,ys2,its2,H11,(I12.pins_of (pins':=[]) (λp hp=>absurd hp (by simp))).weak kp1.1.symm kp1.2,z4,z1,z2,z3,rv11,w12⟩
    ·refine _z (T2.item (zp X N' scope (acc::fp) s₃ H2) rfl rfl rfl hc j _ s11 _ H11 (λ_ _=>False) I11' (stat2 n11) tn11 go2) (λr s12 ⟨u2,hr,h12⟩=>?_) λ_ _ z=>z;subst hr;refine _z h12 (λ_ s13 ⟨x2,H13,I13,r13,y13,tn13,n13⟩=>?_) λ_ _ z=>z;have I13':=I13.pinned (stat2 n13) (T2.obj _ _ tn13);have kp2:=z3x (v:=x2) ow2;refine _z (hg2 _ _ _ _ s13 _ H13 x2 u2 (λO14 H14=>O14=((inner mp O).set k1 (some x)).set k2 (some x2)/\H14=H13) I13' r13 ⟨rfl,rfl⟩) (λ_ s14 ⟨O14,H14,I14,e14,e14'⟩=>?_) λ_ _ z=>z;subst e14 e14';refine _z (he _ _ _ _ s14 _ H14 _ I14 (step2 x2 H14 y13)) (λyv s15 ⟨y,H15,I15,r15,hz,m',lt,v15⟩=>?_) λ_ _ z=>z;have I15u:Inv (zp X N' scope (acc::fp) s₃ H2) ([(acc,LCg.lst its2)]++P7) _ H15 s15:=I15.unpinned;obtain⟨z1,z2,z3,z4⟩:=back I15u;have zz:∀b∈fp2,∀o,s13.heap.get? b=some o->s15.heap.get? b=some o/\H15 b=none:=λb hb o e=>by
      have y:=I15.pin (b,o) (_x _ (_x _ (vZ hb e)));exact⟨y.1,y.2.1⟩
     have fne2:∀b∈fp2,b≠acc:=λb hb=>by
      have:=(f10 b hb).2.2.2.2.2 (acc,LCg.lst its) (_x _ (_aY _ (by simp)));exact _a1 this
     have zl:its2.toArray.size<=sizeLine:=by rw[_k,<- rv11.length];exact hz
     refine append_at (hsz:=zl) z3 λh16 sb ea16=>?_;have I15w:=(unA I15u).weak kp2.1.symm kp2.2;have aP:∀p∈(zp X N' scope (acc::fp) s₃ H2).pn++P7,p.1≠acc:=λp hp=>by
      have hp':p∈P7:=by simpa[zp] using hp
      rw[<- hP]at hp';obtain⟨b,hb,e⟩:=_cV.mp hp';obtain⟨o,_,e2⟩:=_A.mp e;rw[<- e2];exact fne b hb
     have I16:Inv (zp X N' scope (acc::fp) s₃ H2) P7 ((inner mp O).set k1 (some x)) H15 {s15 with heap:=h16}:=I15w.turned (t':=s15.toks) (λb o hb e=>(sb.2 b hb).trans e) z2 Cne (.inl _U) (celln acc _U) aP;refine⟨m',lt,j+1,ys2++[y],its2++[yv],H15,I16,T2.keep _ _ _ tn13 (λb hb o e=>(sb.2 b (fne2 b hb)).trans (zz b hb o e).1),λb hb=>?_,z2,ea16.trans (_ba some (LCg.lst_snoc its2 yv)),rv11.append (.cons r15 .nil),v15⟩;obtain⟨o,e,_⟩:=T2.obj _ _ tn13 b hb;exact (zz b hb o e).2
   exact z6x zac (T2.self _ 0 _ _ _ st10 zac)
 exact codeAny_compStart_list loop (T.self _ 0 _ _ _ tn4 loop)
section
variable {X:Cx}{tg iter tg2 iter2 elt:Expr}{scope:Scope}{pos spos py:Pos}{wi wi2:TI}{te:TE}{k1 k2:Nat}
theorem z4J {i:Nat} {y:Str} (N':List Str) (mp:List (Option Nat)) (hN:X.N.Nodup) (hy:X.N[i]? = some y) (hyl:Loc X.env.scope y) (hc:X.calm=true) (hm1:mp[k1]? = some none) (hm2:mp[k2]? = some none) (hk:k1≠k2) (hi:PI X tg iter wi) (hg:∀ex s H,PG (zp X N' scope ex s H) tg (kY k1)) (hg2:∀ex s H,PG (zp X N' scope ex s H) tg2 (kY k2)) (hi2:∀ex s H,PI (zp X N' scope ex s H) tg2 iter2 wi2) (he:∀ex s H,PE (zp X N' scope ex s H) elt te) (hs2:∀env x,foldedSetIterable iter2 env x=pure x) (hkd:scope.kind=.function) (hnm:∀y∈scope.names,scope.names.lookup y.1=some y.2) (hfr:∀y∈scope.names,y.2=.free->X.env.kindOf y.1=some .cell\/X.env.kindOf y.1=some .free) (hmp:z0s X.N scope.names N' mp=true) (hs:∀x,foldedSetIterable iter X.env x=pure x:=by intro _;rfl) (hsw:swapsWith (.ListComp elt [⟨tg,iter,[],0⟩,⟨tg2,iter2,[],0⟩] scope pos) (some (.Name y py)) spos.line X.env=pure true:=by rfl) (hf:X.fn y=true\/X.env.scope.names.lookup y=some .local:=by first | exact .inl rfl | exact .inr rfl | assumption): PS X (.Assign [.Name y py] (.ListComp elt [⟨tg,iter,[],0⟩,⟨tg2,iter2,[],0⟩] scope pos) spos) (λD O H=>zbr wi mp k1 k2 wi2 te O H (z5D λv H'=>D.nx (O.set i (some v)) H')):=by
 intro pins s O H D I h;rw[_ci _ _ _ _ hsw];refine _a (_aM (_a ?_));show wpAny _ X.A (do let _ <- comprehension (.ListComp elt [⟨tg,iter,[],0⟩,⟨tg2,iter2,[],0⟩] scope pos) scope X.env _ (newList []) false (eval iter X.env) (some (assign (.Name y py) X.env))) _ _ s;refine _a (_z (_bm (use:=some (assign (.Name y py) X.env)) (Q:=λ_ s'=>SP X pins D .next s') rfl hs (wV λy hy hf=>I.ok.has _ (hfr y hy hf)) hkd (λy hy hl=>by rw[hnm y hy,hl]) (thn (hi pins s O H _ I h) λxv s₁ h₁=>thn h₁ λitv s₂ h₂=>?_)) (λ_ s' hq=>_c (_c hq)) λ_ _ e=>e);obtain⟨it,fp,tn,J,H2,e,I2,T,st2,f2,W,w0,turn⟩:=h₂;subst e;refine z4V (N':=N') (mp:=mp) (O:=O) (pins:=pins) (Q:=z5D λv H'=>D.nx (O.set i (some v)) H') (RR:=λacc C=>compPost (model X.prog X.w) X.A X.xe (some (assign (.Name y py) X.env)) (λ_ s'=>SP X pins D .next s') acc C) hc hm1 hm2 hk hg hg2 hi2 he hs2 hkd hnm hfr hmp I2 T st2 f2 W w0 turn ?_;intro acc C s' hd;obtain⟨v,Hf,I3,r,q,⟨m,hm⟩,f⟩:=hd.freeze;refine _b1 (jE I3 hN hy hyl r (λs'' I4 ⟨a,sb,ha⟩=>?_) hf);have hC:C≠a:=by
  rcases ha with z | z;·rw[z];exact f.2.1
  ·exact _a1 (f.2.2.2.2.1 y a z)
 exact⟨m,hm.sameBut sb hC,λh' sb'=>⟨_,Hf,uF I4 f sb',q⟩⟩
end
end L2
namespace Dd
open L2
open Classical in
def z2s(g:List (Nat×List D))(all:List D)(body:D->List D->Sto->R (List D)):List D->List D->Sto->R (List D)
 | [],acc,s=>if okG g all s then .ok acc s else .no | x::xs,acc,s=>if okG g all s then (body x acc s).bind λacc' s1=>z2s g all body xs acc' s1 else .no
def z5F(fi:FI)(mp:List (Option Nat))(k1 k2:Nat)(fi2:FI)(fe:FE):FA:=fun ρ s=>(fi ρ s).bind λit s1=>z2s it.2 it.1 (λd acc s=>(fi2 ((zW mp ρ).set k1 (some d)) s).bind λit2 s2=>xM it2.2 it2.1 (λd2 s=>(fe (((zW mp ρ).set k1 (some d)).set k2 (some d2)) s).bind λd s3=>.ok (some d) s3) it2.1 acc s2) it.1 [] s1
section
variable {X:Cx}{E:XK}{tg iter tg2 iter2 elt:Expr}{pos spos py:Pos}{mp:List (Option Nat)}{k1 k2:Nat}{fi fi2:FI}{fe:FE}{scope:Scope}
theorem z8T{O:L2.St}{H:Hp}{Q:VK}{Y:List Addr}{ρ:Ev}{s:Sto}{β:Type}{kR:List D->Sto->R β}{β2:Type}{Dn:Hp->List Addr->β->β2->Prop}{Q2:β2->Hp->Prop}(r:Rep (gm X) H Y s)(en:vF (gm X) H Y ρ O) (h:okR (gm X) E H Y Dn ((z5F fi mp k1 k2 fi2 fe ρ s).bind kR) Q2) (fin:∀H1 Y1 s1 xs vs,Rep (gm X) H1 Y1 s1->vF (gm X) H1 Y1 ρ O->zq (gm X) H1 Y1 xs vs->okR (gm X) E H1 Y1 Dn (kR xs s1) Q2->xs.length<=cap->∀p,H1 p=none->Q (.ref p) (upd H1 p (.lst vs))): zbr (tI (gm X) E fi) mp k1 k2 (tI (gm X) E fi2) (tE (gm X) E fe) O H Q:=by
 unfold z5F at h;have assoc:∀{α γ δ:Type}(x:R α)(f:α->Sto->R γ)(k:γ->Sto->R δ),(x.bind f).bind k=x.bind λa s=>(f a s).bind k:=λx f k=>by cases x<;>rfl
 rw[assoc]at h;refine⟨Y,ρ,s,r,en,(okR.bind (Dn:=z97 (gm X)) h).imp λJ H1 ⟨Y1,s1,it,stp,ok,h1⟩=>?_⟩;obtain⟨items,gd⟩:=it;simp only at h1;generalize hb:(λ(d:D)(acc:List D)(s:Sto)=>(fi2 ((zW mp ρ).set k1 (some d)) s).bind λit2 s2=>xM it2.2 it2.1 (λd2 s=>(fe (((zW mp ρ).set k1 (some d)).set k2 (some d2)) s).bind λd s3=>R.ok (some d) s3) it2.1 acc s2)=body at h1;refine⟨λi m ys H=>∃Y s acc,yw (gm X) H1 Y1 H Y s/\zq (gm X) H Y acc ys/\acc.length<=cap/\m=items.length-i/\i<=items.length/\okR (gm X) E H Y Dn ((z2s gd items body (items.drop i) acc s).bind kR) Q2, ⟨items.length,Y1,s1,[],.refl stp.rep,zq.nil,_aZ _,by simp,_aZ _,by simpa using h1⟩,?_⟩;rintro i m ys H2 ⟨Y2,s2,acc,stp2,dn2,hcap,rfl,hil,h2⟩;have en2:vF (gm X) H2 Y2 ρ O:=(en.mono stp).mono stp2;by_cases hlt:i<items.length
 ·right;rw[_aT hlt,z2s]at h2;split at h2
  ·rename_i hG;obtain⟨go,yl⟩:=((ok H2 Y2 s2 stp2 hG i).1 items[i] (_n hlt));refine⟨go,λx H' y=>?_⟩;obtain⟨Y3,stp3,dn3⟩:=yl x H' y;have h3:=okR.rebase h2 stp3;rw[<- hb]at h3;simp only at h3;rw[hb,assoc,assoc]at h3;have en3:vF (gm X) H' Y3 ((zW mp ρ).set k1 (some items[i])) ((inner mp O).set k1 (some x)):=((en2.mono stp3).inner).set dn3 k1;refine⟨Y3,(zW mp ρ).set k1 (some items[i]),s2,stp3.rep,en3,(okR.bind (Dn:=z97 (gm X)) h3).imp λJ2 H4 ⟨Y4,s4,it2,stp4,ok2,h4⟩=>?_⟩;obtain⟨items2,gd2⟩:=it2;simp only at h4;generalize hb2:(λ(d2:D)(s:Sto)=>(fe (((zW mp ρ).set k1 (some items[i])).set k2 (some d2)) s).bind λd s3=>R.ok (some d) s3)=body2 at h4;have all4:yw (gm X) H1 Y1 H4 Y4 s4:=(stp2.trans stp3).trans stp4;refine⟨λj m2 ys2 H=>∃Y s acc2,yw (gm X) H4 Y4 H Y s/\zq (gm X) H Y acc2 ys2/\acc2.length<=cap/\m2=items2.length-j/\j<=items2.length/\okR (gm X) E H Y Dn ((xM gd2 items2 body2 (items2.drop j) acc2 s).bind λacc' s1=>(z2s gd items body (items.drop (i+1)) acc' s1).bind kR) Q2, ⟨items2.length,Y4,s4,acc,.refl stp4.rep,(dn2.mono stp3).mono stp4,hcap,by simp,_aZ _,by simpa using h4⟩,?_⟩;rintro j m2 ys2 H5 ⟨Y5,s5,acc2,stp5,dn5,hcap2,rfl,hjl,h5⟩;have en5:vF (gm X) H5 Y5 ((zW mp ρ).set k1 (some items[i])) ((inner mp O).set k1 (some x)):=(en3.mono stp4).mono stp5;by_cases hlt2:j<items2.length
   ·right;rw[_aT hlt2,xM]at h5;split at h5
    ·rename_i hG2;obtain⟨go2,yl2⟩:=((ok2 H5 Y5 s5 stp5 hG2 j).1 items2[j] (_n hlt2));refine⟨go2,λx2 H6 y2=>?_⟩;obtain⟨Y6,stp6,dn6⟩:=yl2 x2 H6 y2;have h6:=okR.rebase h5 stp6;rw[<- hb2]at h6;simp only at h6;rw[hb2,assoc,assoc]at h6;have en6:=(en5.mono stp6).set dn6 k2;refine⟨Y6,((zW mp ρ).set k1 (some items[i])).set k2 (some items2[j]),s5,stp6.rep,en6,(okR.bind (Dn:=Den (gm X)) h6).imp λyv H7 ⟨Y7,s7,d7,stp7,dn7,h7⟩=>?_⟩;simp only[Rb]at h7;split at h7
     ·rename_i hcc;have all7:=(stp5.trans stp6).trans stp7;refine⟨by rw[dn5.length];exact uJ hcap2,items2.length-(j+1),by omega,Y7,s7,acc2++[d7],all7,((dn5.mono stp6).mono stp7).append (zq.one dn7),by simp;omega,rfl,hlt2,h7⟩
     ·exact h7.elim
    ·exact h5.elim
   ·left;have e:j=items2.length:=by omega
    subst e;rw[_cl,xM]at h5;split at h5
    ·rename_i hG2;simp only[Rb]at h5;exact⟨(ok2 H5 Y5 s5 stp5 hG2 _).2 (_f _),items.length-(i+1),by omega,Y5,s5,acc2,all4.trans stp5,dn5,hcap2,rfl,hlt,h5⟩
    ·exact h5.elim
  ·exact h2.elim
 ·left;have e:i=items.length:=by omega
  subst e;rw[_cl,z2s]at h2;split at h2
  ·rename_i hG;simp only[Rb]at h2;exact⟨(ok H2 Y2 s2 stp2 hG _).2 (_f _),by rw[dn2.length];exact uJ hcap,fin H2 Y2 s2 acc ys stp2.rep en2 dn2 h2 hcap⟩
  ·exact h2.elim
def z4n(fi:FI)(mp:List (Option Nat))(k1 k2:Nat)(fi2:FI)(fe:FE):FE:=fun ρ s=>(z5F fi mp k1 k2 fi2 fe ρ s).bind λxs s1=>.ok (.lst xs) s1
theorem zcF (i:Nat) {y:Str} (N':List Str) (mp:List (Option Nat)) (k1 k2:Nat) (hN:X.N.Nodup) (hc:X.calm=true) (hi:RI X E tg iter fi) (hg:∀ex s H,PG (zp X N' scope ex s H) tg (kY k1)) (hg2:∀ex s H,PG (zp X N' scope ex s H) tg2 (kY k2)) (hi2:∀ex s H,RI (zp X N' scope ex s H) E tg2 iter2 fi2) (he:∀ex s H,RE (zp X N' scope ex s H) E elt fe) (hm1:mp[k1]? = some none:=by rfl) (hm2:mp[k2]? = some none:=by rfl) (hk:k1≠k2:=by decide) (hs2:∀env x,foldedSetIterable iter2 env x=pure x:=by intro _ _;rfl) (hkd:scope.kind=.function:=by rfl) (hnm:z7l scope.names=true:=by rfl) (hfr:z8E X.env.kindOf scope.names=true:=by rfl) (hmp:z0s X.N scope.names N' mp=true:=by rfl) (hy:X.N[i]? = some y:=by rfl) (hyl:Loc X.env.scope y:=by first | exact Or.inl rfl | exact Or.inr rfl) (hs:∀x,foldedSetIterable iter X.env x=pure x:=by intro _;rfl) (hsw:swapsWith (.ListComp elt [⟨tg,iter,[],0⟩,⟨tg2,iter2,[],0⟩] scope pos) (some (.Name y py)) spos.line X.env=pure true:=by rfl) (hf:X.fn y=true\/X.env.scope.names.lookup y=some .local:=by first | exact .inl rfl | exact .inr rfl | assumption): RS X E (.Assign [.Name y py] (.ListComp elt [⟨tg,iter,[],0⟩,⟨tg2,iter2,[],0⟩] scope pos) spos) (vP i (z4n fi mp k1 k2 fi2 fe)):= vy (z4J (te:=tE (gm X) E fe) (wi2:=tI (gm X) E fi2) N' mp hN hy hyl hc hm1 hm2 hk hi hg hg2 (λex s H=>hi2 ex s H) (λex s H=>he ex s H) hs2 hkd (z0o hnm) (z0k hfr) hmp hs hsw hf) λD O H ⟨Y,ρ,s,r,en,h⟩=>by
  have assoc:∀{α γ δ:Type} (x:R α) (f:α->Sto->R γ) (k:γ->Sto->R δ),(x.bind f).bind k=x.bind λa s=>(f a s).bind k:=λx f k=>by cases x<;>rfl
  unfold vP z4n at h;rw[assoc]at h;refine z8T r en h λH1 Y1 s1 xs vs r1 en1 dn h1 hcap p hp=>?_;refine qM (E:=E) (mg:=gm X) (xs:=xs) r1 (λv H2 Y2 stp dn2=>?_) dn p hp;exact h1 (.nx (O.set i (some v))) H2 Y2 stp ((en1.mono stp).set dn2 i)
end
end Dd
namespace L2
def z9t:V->List V->Hp->VK->Prop:=λx vs H Q=>∃l b xs zs,x=.ref l/\vs=[.ref b]/\H l=some (.lst xs)/\Rd H b (.lst zs)/\xs.length+zs.length<=sizeLine/\Q .non (upd H l (.lst (xs++zs)))
theorem z6U{X:Cx}:MtM X "list.extend" z9t:=by
 intro pins s O H x vs v us Q I rx rv h;obtain⟨l,b,xs,zs,rfl,rfl,hH,hB,hz,q⟩:=h;cases rx;obtain⟨u,rfl,ru⟩:=rv.one;cases ru;obtain⟨z,its,n,r,hl,e⟩:=I.lstM hH;obtain⟨z2,its2,n2,r2,e2⟩:=hB.ok I.hok;have l1:=r.length;have l2:=r2.length;refine _ck F.slot_list_extend ⟨_,e,rfl⟩ F.entry_list_extend (F.args_list_extend_2 _ _) (AutoSeq1.list_extend_list_list_0 l its.toArray n b its2.toArray n2 ?_ (by rw[_k];omega) (by rw[_k,_k];omega)) ⟨e,e2,?_⟩
 ·intro q';simp only[_p]at q';have:=q'.2;simp only[Builtin.List.listTooLong,_k,_m]at this;omega
 ·refine⟨.non,_,I.lset (its':=its++its2) hH e (by simp) (r.append r2) ?_,rfl,q⟩;rw[_H];omega
end L2
namespace Dd
open L2
section
variable {X:Cx}{E:XK}{e:Expr}{pos:Pos}
noncomputable def zfp(fo fv:FE):FE:=fun ρ s=>(fo ρ s).bind λo s1=>match o with
 | .loc l=>(fv ρ s1).bind λd s2=>match d with
  | .lst ys=>match s2[l]? with
   | some xs=>if D.flat.flats ys=true/\xs.length+ys.length<=cap then .ok .non (s2.set l (xs++ys)) else .no | none=>.no
  | _=>.no
 | _=>.no
theorem zaa {o:Expr} {apos:Pos} {fo fv:FE} (ho:RE X E o fo) (hv:RE X E e fv) (hbase:attributeBase o "extend" X.env (eval o X.env)=eval o X.env:=by rfl) (hfew:((backTo pos (starEach [e] X.env)).all (λx=>!x.1)&&(backToKw pos (keywordEach [] X.env)).all (λx=>x.1.isSome) && decide ([e].length+([]:List Keyword).length+(if ([]:List Keyword).isEmpty then 0 else 1)<30))=true:=by rfl) (hline:(apos.endLine==pos.line)=true:=by rfl) (hs:starEach [e] X.env=(false,eval e X.env)::starEach [] X.env:=by rfl) (hplain:(backTo pos (starEach [] X.env)).any (·.1)=false:=by rfl): RE X E (.Call (.Attribute o "extend" apos) [e] [] pos) (zfp fo fv):= yh (zcU PySem.F.plainAttrs_list PySem.F.slot_list_extend PySem.F.type_list_extend z6U ho (qj hv jy hs) hbase hfew hline hs hplain) λO H Q ⟨Y,ρ,s,r,en,h⟩=>by
  unfold zfp at h;refine⟨Y,ρ,s,r,en,(okR.bind (Dn:=Den (gm X)) h).imp λov H1 ⟨Y1,s1,od,stp,dn,h1⟩=>?_⟩;cases od with
  | loc l=>
   simp only at h1;have hty:tyV X.K "list" ov H1:=by
    simp only[Den]at dn;obtain⟨a,rfl,e1,vs,e2⟩:=dn;exact .inl ⟨rfl,vs,.inl (.inl e2)⟩
   refine⟨hty,⟨Y1,ρ,s1,stp.rep,en.mono stp,(okR.bind (Dn:=Den (gm X)) h1).imp λv H2 ⟨Y2,s2,d,stp2,dn2,h2⟩=>?_⟩⟩;cases d with
   | lst ys=>
    simp only at h2;split at h2
    ·rename_i xs ex;split at h2
     ·rename_i hf;have dov:=dn.mono stp2;simp only[Den]at dov dn2;obtain⟨a,rfl,e1,ka⟩:=dov;obtain⟨b,o',ws,rfl,eb,dw⟩:=dn2;obtain⟨vs,q1,q2⟩:=stp2.rep.at_ ex e1 ka;have stp3:=yw.put (l:=l) (xs:=xs++ys) stp2.rep e1 ka (q2.append dw) (xp (stp2.rep.flat xs (_d ex)) hf.1);refine⟨a,b,vs,ws,rfl,rfl,q1,.inr ⟨o',eb⟩,by rw[q2.length,dw.length];exact uJ hf.2,h2 .non _ _ stp3 (by simp[Den])⟩
     ·exact h2.elim
    ·exact h2.elim | _=>exact h2.elim
  | _=>exact h1.elim
@[simp] theorem zfl (fo fv:FE)(ρ:Ev)(s:Sto):zfp fo fv ρ s=(fo ρ s).bind λo s1=>match o with
 | .loc l=>(fv ρ s1).bind λd s2=>match d with
  | .lst ys=>match s2[l]? with
   | some xs=>if D.flat.flats ys=true/\xs.length+ys.length<=cap then .ok .non (s2.set l (xs++ys)) else .no | none=>.no
  | _=>.no
 | _=>.no:=id rfl
end
end Dd
namespace L2
noncomputable def n3(a b c:Int):Nat:=if a<b then ((b-a-1) / c+1).toNat else 0
end L2
namespace Dd
open L2
open PySem.W
section
end
noncomputable def z7E(fin:Bool):List Int->List Int->Bool
 | x::a,y::b=>if x=y then z7E fin a b else decide (x<y) | _,_=>fin
theorem zbi:∀ns ms:List Int,z7E (decide (ns.length<ms.length)) ns ms=lexN ns ms
 | [],[]=>by simp[z7E,lexN] | [],_::_=>by simp[z7E,lexN] | _::_,[]=>by simp[z7E,lexN] | x::a,y::b=>by
  have:=zbi a b;simp only[z7E,lexN,_s,Nat.add_lt_add_iff_right,this]
def TupAt(h:Heap)(v:Value)(ns:List Int):Prop:=∃a o n us,v=.ref a/\h.get? a=some o/\o.cls=.type "tuple"/\o.data=.seq us n/\yy us.toList ns/\ns≠[]
inductive uH (h:Heap):List Value->List (List Int)->Prop | nil:uH h [] [] | cons {v p vs ps}:TupAt h v p->uH h vs ps->uH h (v::vs) (p::ps)
theorem uH.mono{h h':Heap}(k:∀b o,h.get? b=some o->h'.get? b=some o):∀{vs ps},uH h vs ps->uH h' vs ps
 | _,_,.nil=>.nil | _,_,.cons ⟨a,o,n,us,e,g,c,d,i,z⟩ r=>.cons ⟨a,o,n,us,e,k _ _ g,c,d,i,z⟩ (r.mono k)
theorem uH.tups{h:Heap}:∀{vs ps},uH h vs ps->∃fs,KatTups h vs fs/\fs.length=ps.length/\∀v∈fs,∃i t,v=.int i t
 | _,_,.nil=>⟨[],KatTups.nil,rfl,λv hv=>by cases hv⟩ | _,_,.cons (p:=p) ⟨a,o,n,us,e,g,c,d,i,z⟩ r=>by
  obtain⟨fs,k,l,m⟩:=r.tups;subst e;obtain⟨ul⟩:=us;cases i with
  | nil=>exact absurd rfl z | @cons x t ws ns i'=>
   refine⟨.int x t::fs,KatTups.cons g c d rfl k,by simp[l],λv hv=>?_⟩;rcases _h.mp hv with rfl | hv;·exact⟨_,_,rfl⟩
   ·exact m v hv
section
variable {prog:Program}{w:World}{A:Around}{E:Value->Shared->Prop}{s:Shared}
theorem z5y {fin:Bool} {C:Bool->Shared->Prop}:∀{xs ys:List Value} {ns ms:List Int} (i:Nat),yy xs ns->yy ys ms->C (z7E fin ns ms) s->KatLex prog w A true fin C (xs.zip ys) i s
 | _,_,_,_,i,.nil,_,h=>by
  simp only[List.zip_nil_left];refine kat_nil ?_;simpa[z7E] using h | _,_,_,_,i,.cons _,.nil,h=>by
  simp only[List.zip_nil_right];refine kat_nil ?_;simpa[z7E] using h | _,_,_,_,i,.cons (i:=x) (t:=t) r,.cons (i:=y) (t:=t') r',h=>by
  simp only[_bv];refine kat_cons (_dm (kat_go (λe=>kat_yes (z5y (i+1) r r' ?_)) λe=>kat_no ?_))
  ·have e1:x=y:=by simpa using e
   simpa[z7E,e1] using h
  ·have e1:¬ x=y:=by simpa using e
   have h':C (decide (x<y)) s:=by simpa[z7E,e1] using h
   cases i with
   | zero=>
    have hb:(true&&((0:Nat)==0))=true:=rfl;rw[hb];exact oneLt_int h' | succ i=>
    have hb:(true&&((i+1:Nat)==0))=false:=by simp
    rw[hb];exact kat_one _ _ (_cH h')
theorem zcf{v u:Value}{p q:List Int}{C:Bool->Shared->Prop}(hv:TupAt s.heap v p)(hu:TupAt s.heap u q)(h:C (lexN p q) s):wpAny (model prog w) A (keyLt' (tuples' true) v u) C E s:=by
 obtain⟨a,o,n,us,rfl,g,c,d,i,_⟩:=hv;obtain⟨b,o',n',us',rfl,g',c',d',i',_⟩:=hu;refine kat_lt g d g' d' (z5y 0 i i' ?_);have e:decide (us.size<us'.size)=decide (p.length<q.length):=by
  have:=i.length;have:=i'.length;simp only[_V]at *;simp[*]
 rw[e,zbi];exact h
theorem z8e{vs:List Value}{ps:List (List Int)}{Q:SortKind->Shared->Prop}(hp:uH s.heap vs ps)(h0:0<ps.length)(h:Q (tuples' true) s):wpAny (model prog w) A (keyKind' vs.toArray) Q E s:=by
 obtain⟨fs,k,l,m⟩:=hp.tups;refine kat_kind (T:=.type "int") k (by rw[l];exact h0) (λv hv=>?_) rfl h;obtain⟨i,t,rfl⟩:=m v hv;exact Looks.of_pure rfl
end
section
variable {X:Cx}{E:XK}
theorem z8s{pins:List (Addr×Obj)}{O:L2.St}{H:Hp}{s:Shared}(I:Inv X pins O H s):∀{ys:List V}{its:List Value}{ps:List (List Int)},yF ys its->Paired (λv ns=>AtN H v ns) ys ps->(∀n∈ps,n≠[])->uH s.heap its ps
 | [],_,_,.nil,.nil,_=>.nil | y::ys,_,_,.cons r rs,.cons a p,hn=>by
  refine .cons ?_ (z8s I rs p λn hm=>hn n (.tail _ hm));obtain⟨b,its,rfl,rfl,⟨o,g,c,k,d⟩,z⟩:=a.tuple I r;exact⟨b,o,k,its,rfl,g,c,d,z,hn _ (.head _)⟩
end
end Dd
namespace Dd
open L2
theorem zeM{H:Hp}{p:Addr}(h:IsC H p):IsD H p:=by
 rcases h with⟨kvs,q⟩ | ⟨o,kvs,q⟩ | ⟨kvs,_,q⟩ | ⟨o,kvs,q⟩;·exact .inr ⟨kvs,.inl q⟩
 ·exact .inr ⟨kvs,.inr ⟨o,q⟩⟩
 ·exact .inl ⟨kvs,.inl q⟩
 ·exact .inl ⟨kvs,.inr ⟨o,q⟩⟩
end Dd
namespace L2
open Dd
end L2
namespace Dd
open L2
section
variable {X:Cx}{E:XK}{a:Expr}
theorem z6g{mg:Gm}{H:Hp}{Y:List Addr}{ds:List D}{vs:List V}(h:zq mg H Y ds vs):vs.isEmpty=ds.isEmpty:=by
 have:=h.length;cases ds<;>cases vs<;>simp at this ⊢
end
end Dd
namespace Pg
open L2 Dd
@[simp] noncomputable def z4c:FS:=(vv (z2I (eIs "int" (zd 0)) (zfy (eIs "bool" (zd 0)))))
noncomputable def ja:FS:=z4c
noncomputable def yD:Mir:=Mof ["thing"] 1 ja
@[simp] noncomputable def z4u:FS:=(vv (z2I (eIs "tuple" (zd 0)) (z26 dLe dLe (eC (.int 2)) (ze xL (za (zd 0) zi)) (eC (.int 4)))))
noncomputable def z0N:FS:=z4u
noncomputable def wW:Mir:=Mof ["thing"] 1 z0N
@[simp] noncomputable def yZ:FS:=(vP 3 (z04 (za (vA zi) zi)))
@[simp] def xb:FS:=(vP 3 (z4n (xg (zd 3)) [some 1,some 2,none,none] 2 3 (z7F (za (zd 0) (za (eOp wT (zd 1) (eC (.int 1))) zi))) (eOp wT (zd 2) (vA (za (zd 3) zi)))))
@[simp] def yX:FS:=(z4S (z2l (za (zd 0) zi)) (xK 4) xb)
@[simp] noncomputable def jw:FS:=(vv (zd 3))
def vU:FS:=(zZ yZ (zZ yX jw))
def zJ:Mir:=Mof ["size","least","most","found","place"] 3 vU
@[simp] noncomputable def z1r:FS:=(vv (eC (.bl false)))
@[simp] noncomputable def z1w:FS:=(fIf (fOr (jl (tOf (eIs "tuple" (zd 0)))) (tOf (eOp dNe (ze xL (za (zd 0) zi)) (zd 1)))) z1r wN)
@[simp] def qU:FS:=(vv (ze z71 (za (zX (xg (zd 0)) [none] (xK 0) xJ (ze yD (za (zd 0) zi))) zi)))
def xZ:FS:=(zZ z1w qU)
def zH:Mir:=Mof ["thing","many"] 2 xZ
@[simp] noncomputable def z0Z:FS:=fNo
@[simp] noncomputable def qf:FS:=(fIf (fOr (jl (tOf (ze yD (za (zd 0) zi)))) (jl (tOf (z26 dLe dLe (zd 1) (zd 0) (zd 2))))) z0Z wN)
noncomputable def qR:FS:=qf
noncomputable def xu:Mir:=Mof ["thing","least","most"] 3 qR
@[simp] noncomputable def z6W:FS:=(vv (eC (.bl false)))
@[simp] def z6V:FS:=(fIf (fOr (jl (tOf (ze wW (za (zd 0) zi)))) (jl (tOf (ze zH (za (zd 0) (za (ze xL (za (zd 0) zi)) zi)))))) z6W wN)
@[simp] noncomputable def z6h:FS:=(vv (z2I (eOp dGe (ze jQ (za (zd 0) zi)) (eC (.int 0))) (eOp dGt (ze vp (za (zd 0) zi)) (eC (.int 0)))))
def z3y:FS:=(zZ z6V z6h)
def um:Mir:=Mof ["thing"] 1 z3y
@[simp] noncomputable def z3q:FS:=fNo
@[simp] def z3U:FS:=(fIf (jl (tOf (ze um (za (zd 0) zi)))) z3q wN)
def z14:FS:=z3U
def wv:Mir:=Mof ["thing"] 1 z14
@[simp] def z3S:FS:=(vv (ze zdf (za (zX (zbh (za (zd 0) (za (zd 1) zi))) [none,none] (z13 0 1) xJ (eOp qb (zd 0) (zd 1))) zi)))
def z0v:FS:=z3S
def zE:Mir:=Mof ["line","numbers"] 2 z0v
@[simp] def z1S:FS:=(vv (ze vp (za (zX (xg (zd 0)) [none] (xK 0) xJ (ze zbF (za (zd 0) zi))) zi)))
def z3K:FS:=z1S
def uf:Mir:=Mof ["line"] 1 z3K
@[simp] def z1G:FS:=(vv (ze wn (za (zX (xg (zd 0)) [none] (xK 0) xJ (z5c (zd 0))) zi)))
def z3X:FS:=z1G
def wA:Mir:=Mof ["line"] 1 z3X
@[simp] def z3O:FS:=(vv (ze wn (za (zX (xg (zd 0)) [none] (xK 0) xJ (ze z48 (za (zd 0) (za (eC (.int 0)) zi)))) zi)))
def z5h:FS:=z3O
def uz:Mir:=Mof ["line"] 1 z5h
@[simp] def jL:FS:=(vv (z2I (ze zH (za (zd 2) (za (ze xL (za (zd 0) zi)) zi))) (z2I (eOp dGe (ze jQ (za (zd 2) zi)) (eC (.int 0))) (eOp dLe (ze vp (za (zd 2) zi)) (zd 1)))))
def kW:FS:=jL
def yf:Mir:=Mof ["lot","number","thing"] 3 kW
@[simp] noncomputable def kZ:FS:=(vv (eOp dIx (zd 0) (zd 1)))
@[simp] noncomputable def z08:FS:=(fIf (tOf (eOp dLt (zd 1) (ze xL (za (zd 0) zi)))) kZ wN)
@[simp] noncomputable def z01:FS:=(vv (eC (.int 0)))
noncomputable def ve:FS:=(zZ z08 z01)
noncomputable def yT:Mir:=Mof ["_law_script","_law_k"] 2 ve
@[simp] noncomputable def z43:FS:=(vv (zdi (za (eOp zaM (zd 0) (eOp zdh (eC (.int 10)) (eC (.int 18)))) zi)))
@[simp] noncomputable def z4a:FS:=(fIf (tOf (eOp dGe (zd 0) (eOp zdh (eC (.int 10)) (eC (.int 18))))) z43 wN)
@[simp] noncomputable def z4l:FS:=(vP 1 (eC (.int 0)))
@[simp] noncomputable def kK:FS:=(vP 3 (eOp z8a (eOp qb (eOp wT (eOp wT (eOp z8a (zd 0) (eC (.int 2147483629))) (eOp qb (eC (.int 7919)) (zd 2))) (eC (.int 1))) (eC (.int 48271))) (eC (.int 2147483647))))
@[simp] noncomputable def kE:FS:=(vP 3 (eOp z8a (eOp wT (eOp wT (eOp qb (zd 3) (zd 3)) (eOp qb (eC (.int 69621)) (zd 2))) (eC (.int 7))) (eC (.int 2147483587))))
@[simp] noncomputable def kL:FS:=(vP 1 (eOp wT (eOp qb (zd 1) (eC (.int 2147483587))) (zd 3)))
@[simp] def kJ:FS:=(z4S (z2l (za (eC (.int 64)) zi)) (xK 2) (zZ kK (zZ kE kL)))
@[simp] noncomputable def z49:FS:=(vv (zdi (za (zd 1) zi)))
def je:FS:=(zZ z4a (zZ z4l (zZ kJ z49)))
def wX:Mir:=Mof ["_law_cell","_law_number","_law_j","_law_more"] 1 je
@[simp] def z42:FS:=(vv (ze zdf (za (zX (zbh (za (zd 0) (za (zd 1) zi))) [none,none] (z13 0 1) xJ (eOp qb (zd 0) (zd 1))) zi)))
def z57:FS:=z42
def xT:Mir:=Mof ["_law_one","_law_lot"] 2 z57
@[simp] noncomputable def z38:FS:=(vP 2 (eOp z8a (eOp dIx (zd 0) (eC (.int 0))) (zd 1)))
@[simp] noncomputable def z2h:FS:=(z3W (zd 0) (eC (.int 0)) (eOp z6i (eOp dIx (zd 0) (eC (.int 0))) (zd 1)))
@[simp] noncomputable def z2j:FS:=(vv (zd 2))
noncomputable def kM:FS:=(zZ z38 (zZ z2h z2j))
noncomputable def zk:Mir:=Mof ["_law_pot_here","_law_far","_law_found"] 2 kM
@[simp] noncomputable def jO:FS:=(vv (z2I (eIs "int" (zd 0)) (zfy (eIs "bool" (zd 0)))))
noncomputable def uL:FS:=jO
noncomputable def zI:Mir:=Mof ["_law_found"] 1 uL
@[simp] noncomputable def z0g (Mr:Mir):FS:=(vv (eOp dIs (zd 0) (eC .non)))
@[simp] noncomputable def z0c (Mr:Mir):FS:=(fIf (tOf (eOp dIs (zd 1) (eC .non))) (z0g Mr) wN)
@[simp] noncomputable def z00 (Mr:Mir):FS:=(vv (z2I (eIs "bool" (zd 0)) (eOp dEq (zd 0) (zd 1))))
@[simp] noncomputable def z07 (Mr:Mir):FS:=(fIf (tOf (eIs "bool" (zd 1))) (z00 Mr) wN)
@[simp] noncomputable def z0b (Mr:Mir):FS:=(vv (z2I (ze zI (za (zd 0) zi)) (eOp dEq (zd 0) (zd 1))))
@[simp] noncomputable def z05 (Mr:Mir):FS:=(fIf (tOf (eIs "int" (zd 1))) (z0b Mr) wN)
@[simp] noncomputable def z0d (Mr:Mir):FS:=(vv (z2I (eIs "str" (zd 0)) (eOp dEq (zd 0) (zd 1))))
@[simp] noncomputable def z03 (Mr:Mir):FS:=(fIf (tOf (eIs "str" (zd 1))) (z0d Mr) wN)
@[simp] noncomputable def kr (Mr:Mir):FS:=(vv (eC (.bl false)))
@[simp] noncomputable def z02 (Mr:Mir):FS:=(fIf (fOr (tOf (eOp dNe (eIs "tuple" (zd 1)) (eIs "tuple" (zd 0)))) (tOf (eOp dNe (eIs "list" (zd 1)) (eIs "list" (zd 0))))) (kr Mr) wN)
@[simp] def jP (Mr:Mir):FS:=(vv (z2I (eOp dEq (ze xL (za (zd 0) zi)) (ze xL (za (zd 1) zi))) (ze z71 (za (zX (zbh (za (zd 0) (za (zd 1) zi))) [none,none] (z13 0 1) xJ (ze Mr (za (zd 0) (za (zd 1) zi)))) zi))))
def yA(Mr:Mir):FS:=(zZ (z0c Mr) (zZ (z07 Mr) (zZ (z05 Mr) (zZ (z03 Mr) (zZ (z02 Mr) (jP Mr))))))
def xi:Nat->Mir
 | 0=>λ_ _=>.no | k+1=>Mof ["_law_found","_law_due"] 2 (yA (xi k))
def yV:Mir:=xi 4
@[simp] noncomputable def wd:FS:=(vP 2 (eOp dIx (z04 (za (eC (.int 10)) (za (eC (.int 61)) (za (eC (.int 1001)) zi)))) (ze zk (za (zd 0) (za (eC (.int 3)) zi)))))
@[simp] def wk:FS:=(vP 3 (z1M (z2l (za (zd 1) zi)) [some 0,some 2,none] (xK 2) xJ (ze zk (za (zd 0) (za (zd 1) zi)))))
@[simp] noncomputable def xY:FS:=(zfv 4 5 (za (ze zk (za (zd 0) (za (zd 1) zi))) (za (ze zk (za (zd 0) (za (zd 1) zi))) zi)))
@[simp] noncomputable def we:FS:=(vP 6 (ze zk (za (zd 0) (za (eC (.int 5)) zi))))
@[simp] noncomputable def vB:FS:=(z3W (zd 3) (zd 4) (eC (.int 0)))
@[simp] noncomputable def xc:FS:=(fIf (tOf (eOp dEq (zd 6) (eC (.int 0)))) vB wN)
@[simp] noncomputable def vD:FS:=(z3W (zd 3) (zd 4) (eOp dIx (zd 3) (zd 5)))
@[simp] noncomputable def xf:FS:=(fIf (tOf (eOp dEq (zd 6) (eC (.int 1)))) vD wN)
@[simp] noncomputable def vq:FS:=(z3W (zd 3) (zd 5) (eOp wT (eC (.int 1)) (ze zk (za (zd 0) (za (eOp zaM (zd 2) (eC (.int 1))) zi)))))
@[simp] noncomputable def yY:FS:=(fIf (tOf (eOp dEq (ze vp (za (zd 3) zi)) (eC (.int 0)))) vq wN)
@[simp] noncomputable def va:FS:=(vv (ze wn (za (zd 3) zi)))
def vV:FS:=(zZ wd (zZ wk (zZ xY (zZ we (zZ xc (zZ xf (zZ yY va)))))))
def yR:Mir:=z4g (Mof ["_law_pot_here","_law_size","_law_far","_law_found","_law_at","_law_to","_law_way"] 2 vV)
end Pg
namespace Dd
open L2
end Dd
namespace L2
open Dd Zz
end L2
namespace Dd
open L2
end Dd
set_option maxRecDepth 1000000
set_option maxHeartbeats 4000000
namespace Pm
noncomputable def dot(r v:List Int):Int:=(List.zipWith (λa b=>a*b) r v).sum
end Pm
set_option maxRecDepth 1000000
set_option maxHeartbeats 40000000
namespace Pm
end Pm
set_option maxRecDepth 1000000
set_option maxHeartbeats 40000000
namespace Pm
abbrev Sz(n:Nat):Prop:=n=2\/n=3\/n=4
open L2 (maxL minL maxL_ge maxL_mem minL_le minL_mem)
structure Lot(n:Nat)(v:List Int):Prop where
 sz:Sz n
 len:v.length=n
 nn:∀x∈v,0<=x
 pos:∃x∈v,0<x
@[simp] theorem z4Z:dot [] []=0:=id rfl
@[simp] theorem dot_cons (a b:Int) (r v:List Int):dot (a::r) (b::v)=a*b+dot r v:=rfl
theorem z1O:∀{r c r' c':List Int},r.length=c.length->dot (r++r') (c++c')=dot r c+dot r' c'
 | [],[],_,_,_=>by simp | a::r,b::c,r',c',h=>by
  have:=z1O (r:=r) (c:=c) (r':=r') (c':=c') (by simpa using h);simp only[_X,dot_cons,this];omega | [],_::_,_,_,h=>by simp at h | _::_,[],_,_,h=>by simp at h
theorem getD_mem{v:List Int}{i:Nat}(h:i<v.length):v.getD i 0∈v:=by simp[List.getD,_n h]
theorem Lot.ne{n:Nat}{v:List Int}(h:Lot n v):v≠[]:=λz=>by
 obtain⟨x,hx,_⟩:=h.pos;rw[z]at hx;simp at hx
open Dd (lexN)
theorem xX:∀a:List Int,lexN a a=false
 | []=>rfl | x::a=>by simp[lexN,xX a]
theorem qI:∀{a b:List Int},a≠b->lexN b a=!lexN a b
 | [],[],h=>absurd rfl h | [],_::_,_=>rfl | _::_,[],_=>rfl | x::a,y::b,h=>by
  by_cases e:x=y
  ·subst e;have:a≠b:=λz=>h (by rw[z]);simp only[lexN,_N];exact qI this
  ·have e':¬ y=x:=λz=>e z.symm;simp only[lexN,e,e',_ab];by_cases l:x<y;·simp[l];omega
   ·simp[l];omega
theorem z0M:∀{a b c:List Int},lexN a b=true->lexN b c=true->lexN a c=true
 | [],[],_,h,_=>by simp[lexN]at h | [],_::_,[],_,h=>by simp[lexN]at h | [],_::_,_::_,_,_=>rfl | _::_,[],_,h,_=>by simp[lexN]at h | _::_,_::_,[],_,h=>by simp[lexN]at h | x::a,y::b,z::c,h1,h2=>by
  simp only[lexN]at h1 h2 ⊢;by_cases e1:x=y
  ·subst e1;by_cases e2:x=z
   ·subst e2;simp only[_N]at h1 h2 ⊢;exact z0M h1 h2
   ·simp only[e2,_ab]at h2 ⊢;exact h2
  ·simp only[e1,_ab,_m]at h1;by_cases e2:y=z
   ·subst e2;simp only[e1,_ab,_m];exact h1
   ·simp only[e2,_ab,_m]at h2;have e3:¬ x=z:=by omega
    simp only[e3,_ab,_m];omega
theorem z0G:∀{a b:List Int}{x y:Int},a.length=b.length->(lexN a b=true\/(a=b/\x<y))->lexN (a++[x]) (b++[y])=true
 | [],[],x,y,_,h=>by
  rcases h with h | ⟨_,h⟩;·simp[lexN]at h
  ·have:¬ x=y:=by omega
   simp[lexN,this,h] | [],_::_,_,_,h,_=>by simp at h | _::_,[],_,_,h,_=>by simp at h | u::a,w::b,x,y,hl,h=>by
  simp only[_X,lexN];by_cases e:u=w
  ·subst e;simp only[_N];refine z0G (by simpa using hl) ?_;rcases h with h | ⟨h1,h2⟩;·exact .inl (by simpa[lexN] using h)
   ·exact .inr ⟨by simpa using h1,h2⟩
  ·simp only[e,_ab,_m];rcases h with h | ⟨h1,h2⟩;·simpa[lexN,e] using h
   ·simp at h1;exact absurd h1.1 e
abbrev Up(L:List (List Int)):Prop:=L.Pairwise λa b=>lexN a b=true
theorem Up.nodup{L:List (List Int)}(h:Up L):L.Nodup:=h.imp λ{a b} q z=>by rw[z,xX]at q;cases q
theorem z7K{α:Type}{a b:List α}{i:Nat}{d:α}(h:i<a.length):(a++b).getD i d=a.getD i d:=by simp[_S,_u h]
theorem z8U{α:Type}{a b:List α}{i:Nat}{d:α}(h:a.length<=i):(a++b).getD i d=b.getD (i-a.length) d:=by simp[_S,_Q h]
noncomputable def z1o(F:List (List Int))(c:List Int):List (List Int):=F.flatMap λa=>c.map λg=>a++[g]
noncomputable def uS(cs:List (List Int)):List (List Int):=cs.foldl z1o [[]]
theorem vY(cs:List (List Int))(c:List Int):uS (cs++[c])=z1o (uS cs) c:=by simp[uS]
theorem snoc_ind{α:Type}{P:List α->Prop}(h0:P [])(h1:∀l x,P l->P (l++[x]))(l:List α):P l:=by
 have:∀n (l:List α),l.length=n->P l:=by
  intro n;induction n with
  | zero=>intro l hl;rw[_bZ.mp hl];exact h0 | succ n ih=>
   intro l hl;have ne:l≠[]:=λz=>by rw[z]at hl;simp at hl
   rw[<- List.dropLast_concat_getLast ne];exact h1 _ _ (ih _ (by simp[hl]))
 exact this _ l rfl
theorem z0S(cs:List (List Int)):∀v:List Int,v∈uS cs ↔ v.length=cs.length/\∀i,i<cs.length->v.getD i 0∈cs.getD i []:=by
 refine snoc_ind (P:=λcs=>∀v:List Int,v∈uS cs ↔ v.length=cs.length/\∀i,i<cs.length->v.getD i 0∈cs.getD i []) ?_ ?_ cs
 ·intro v;simp[uS]
 ·intro cs c ih v;rw[vY];simp only[z1o,_ds,_y];constructor
  ·rintro⟨a,ha,g,hg,rfl⟩;obtain⟨l,h⟩:=(ih a).mp ha;refine⟨by simp[l],λi hi=>?_⟩;by_cases q:i<cs.length
   ·have:=h i q;rw[z7K (a:=a) (by omega),z7K q];exact this
   ·have e:i=cs.length:=by simp at hi;omega
    subst e;rw[z8U (a:=a) (by omega),z8U (a:=cs) (by omega)];simp[l,hg]
  ·rintro⟨l,h⟩;have ne:v≠[]:=λz=>by rw[z]at l;simp at l
   refine⟨v.dropLast,(ih _).mpr ⟨by simp[l],λi hi=>?_⟩,v.getLast ne,?_,List.dropLast_concat_getLast ne⟩
   ·have:=h i (by simp;omega);rw[z7K hi]at this;have e:v.dropLast.getD i 0=v.getD i 0:=by
     have l':v.length=cs.length+1:=by simpa using l
     have h1:i<v.length:=by omega
     simp[_S,List.getElem?_dropLast,l',hi,_n h1]
    rw[e];exact this
   ·have:=h cs.length (by simp);rw[z8U (_f _)]at this;have e:v.getD cs.length 0=v.getLast ne:=by
     rw[List.getLast_eq_getElem];simp at l;simp[_S,l]
    rw[e]at this;simpa using this
theorem z5s(cs:List (List Int)):(∀c∈cs,c.Pairwise (· < ·))->Up (uS cs):=by
 refine snoc_ind (P:=λcs=>(∀c∈cs,c.Pairwise (· < ·))->Up (uS cs)) (λ_=>by simp[uS,Up]) ?_ cs;intro cs c ih h;have ih:=ih λc hc=>h c (by simp[hc]);have hc:=h c (by simp);have hl:=λv hv=>((z0S cs v).mp hv).1;rw[vY];unfold z1o Up;rw[List.pairwise_flatMap];refine⟨λa ha=>?_,?_⟩
 ·rw[_b9];exact hc.imp λ{x y} q=>z0G rfl (.inr ⟨rfl,q⟩)
 ·refine List.Pairwise.imp_of_mem (λ{a b} ha hb q=>?_) ih;intro x hx y hy;obtain⟨g,_,rfl⟩:=_y.mp hx;obtain⟨k,_,rfl⟩:=_y.mp hy;exact z0G (by rw[hl a ha,hl b hb]) (.inl q)
theorem z4m(cs:List (List Int)){k:Nat}:(∀c∈cs,c.length<=k)->(uS cs).length<=k ^ cs.length:=by
 refine snoc_ind (P:=λcs=>(∀c∈cs,c.length<=k)->(uS cs).length<=k ^ cs.length) (λ_=>by simp[uS]) ?_ cs;intro cs c ih h;have ih:=ih λc hc=>h c (by simp[hc]);have hc:=h c (by simp);rw[vY];have e:(z1o (uS cs) c).length=(uS cs).length*c.length:=by
  unfold z1o;rw[List.length_flatMap];simp;induction (uS cs) with
  | nil=>simp | cons a l ih=>simp[ih,Nat.add_mul,Nat.add_comm]
 rw[e,_H,_bB,Nat.pow_succ];exact _br ih hc
end Pm
namespace Pg
open L2 Dd Pm
noncomputable abbrev iL(ns:List Int):List D:=ns.map D.int
theorem zgS{i:Int}{m:Nat}(h:i.natAbs<2 ^ m)(hm:m<=2000):i.natAbs<BIG:=_w h (_aL (by decide) (by omega))
theorem zdz{a b:Int}{m k:Nat}(s:Sto)(ha:a.natAbs<2 ^ m)(hm:m<=2000)(hb:b.natAbs<2 ^ k)(hk:k<=2000):qb (.int a) (.int b) s=.ok (.int (a*b)) s:=by rw[zaG,_g ⟨zgS ha hm,zgS hb hk⟩]
theorem z5x{a b:Int}(s:Sto)(hb:0<b):z8a (.int a) (.int b) s=.ok (.int (a % b)) s:=by rw[zdw,_g hb]
theorem z5B{xs:List D}(s:Sto)(h:∀x∈xs,x=.bl true):z71 [.lst xs] s=.ok (.bl true) s:=by
 have e:xs=(xs.map λ_=>true).map D.bl:=by
  rw[_aI];conv=>lhs;rw[<- List.map_id xs]
  exact List.map_congr_left λx hx=>h x hx
 have b:bools xs=some (xs.map λ_=>true):=by
  conv=>lhs;rw[e]
  exact z3z _
 simp[z71,ye,b]
theorem z8b{ns:List Int}(s:Sto)(h:ns≠[]):vp [.tup (iL ns)] s=.ok (.int (maxL ns)) s:=by cases ns with
 | nil=>exact absurd rfl h | cons n ns=>simp only[vp,ye,_ar,xx]
theorem zaX{ns:List Int}(s:Sto)(h:ns≠[]):jQ [.tup (iL ns)] s=.ok (.int (minL ns)) s:=by cases ns with
 | nil=>exact absurd rfl h | cons n ns=>simp only[jQ,ye,_ar,xx]
theorem zdA{ns:List Int}(s:Sto)(h:ns≠[]):vp [.lst (iL ns)] s=.ok (.int (maxL ns)) s:=by cases ns with
 | nil=>exact absurd rfl h | cons n ns=>simp only[vp,ye,_ar,xx]
theorem z9Q{ns:List Int}{l:Nat}{s:Sto}(h:ns≠[])(e:s[l]? = some (iL ns)):vp [.loc l] s=.ok (.int (maxL ns)) s:=by cases ns with
 | nil=>exact absurd rfl h | cons n ns=>simp only[vp,ye,e,_ar,xx]
theorem z6L(i:Int)(s:Sto):yD [.int i] s=.ok (.bl true) s:=by simp[yD,Mof,ja,zK,gIs,tyD,isT]
theorem z6E(xs:List D)(s:Sto)(h:2<=xs.length/\xs.length<=4):wW [.tup xs] s=.ok (.bl true) s:=by
 have h1:(2:Int)<=xs.length:=by omega
 have h2:(xs.length:Int)<=4:=by omega
 simp[wW,Mof,z0N,zK,gIs,tyD,isT,xL,ye,h1,h2]
theorem z3t (ns:List Int) (s:Sto) (h:ns.length<=1000):zH [.tup (iL ns),.int ns.length] s=.ok (.bl true) s:=by
 simp[zH,Mof,xZ,zK,gIs,tyD,isT,xL,ye];rw[z3F (λ_=>D.bl true) (iL ns) [] (by intro x hx;obtain⟨n,_,rfl⟩:=_y.mp hx;simp[z6L]) (by simp[cap];omega)];simp only[Rb,List.nil_append];rw[z5B s (by intro x hx;obtain⟨_,_,rfl⟩:=_y.mp hx;rfl)];simp
theorem z5Y{α:Type}{all:List D}{s:Sto}{body:D->Sto->R (Option D)}(g f:α->D):∀(l:List α)(acc:List D),(∀a∈l,body (g a) s=.ok (some (f a)) s)->acc.length+l.length<=cap->xM [] all body (l.map g) acc s=.ok (acc++l.map f) s
 | [],acc,_,_=>by simp[xM,okG] | x::xs,acc,hb,hl=>by
  have ih:=z5Y (all:=all) g f xs (acc++[f x]) (λy hy=>hb y (by simp[hy])) (by simp at hl ⊢;omega);have hc:acc.length<cap:=by simp at hl;omega
  rw[_l,xM];simp[okG,hb x (by simp),hc,ih]
theorem zen(ns:List Int)(s:Sto):zdf [.lst (iL ns)] s=.ok (.int ns.sum) s:=by simp only[zdf,ye,_ar,xx]
theorem zw:∀(r v:List Int),List.zipWith (λa b=>a*b) r v=(List.zip r v).map λp=>p.1*p.2
 | [],_=>by simp | _::_,[]=>by simp | a::r,b::v=>by simp[zw r v]
theorem z5p:∀(r v:List Int),z3i (iL r) (iL v)=(List.zip r v).map λp=>D.tup [.int p.1,.int p.2]
 | [],_=>by simp[z3i] | _::_,[]=>by simp[z3i] | a::r,b::v=>by
  have:=z5p r v;simp only[iL]at this;simp[z3i,this]
theorem ub{r v:List Int}{m k:Nat}(s:Sto)(hr:∀x∈r,x.natAbs<2 ^ m)(hv:∀x∈v,x.natAbs<2 ^ k)(hm:m<=2000)(hk:k<=2000)(hl:r.length<=4):zE [.tup (iL r),.tup (iL v)] s=.ok (.int (dot r v)) s:=by
 have ez:=z5p r v;simp only[iL]at ez;simp[zE,Mof,z0v,zK,zb5,ez,-List.map_map];rw[z5Y _ (λp:Int×Int=>D.int (p.1*p.2)) _ [] (by
  intro p hp;have h1:=hr p.1 (_bP hp).1;have h2:=hv p.2 (_bP hp).2;simp[zdz s h1 hm h2 hk]) (by simp[cap];omega)];simp only[Rb,List.nil_append];have e:(List.zip r v).map (λp:Int×Int=>D.int (p.1*p.2))=iL ((List.zip r v).map λp=>p.1*p.2):=by simp[_aO]
 rw[e,zen];simp[dot,zw]
noncomputable abbrev rD(r:List Int):D:=.tup (iL r)
theorem z2r(xs:List D)(i:Nat)(s:Sto):dSl (.tup xs) none (some (i:Int)) s=.ok (.tup (xs.take i)) s:=by
 have e:Dd.cutD xs none (some (i:Int))=xs.take i:=by
  unfold Dd.cutD;rw[HT.z2B,HT.z7Y];simp[List.take_eq_take_min]
 simp only[dSl,e]
theorem z8H(xs:List D)(i:Nat)(s:Sto):dSl (.tup xs) (some (i:Int)) none s=.ok (.tup (xs.drop i)) s:=by
 have e:Dd.cutD xs (some (i:Int)) none=xs.drop i:=by
  unfold Dd.cutD;rw[HT.z2B,HT.z7Y];by_cases h:i<=xs.length
  ·rw[Nat.min_eq_left h];exact _aA (by simp)
  ·rw[Nat.min_eq_right (by omega)];simp[List.drop_of_length_le (show xs.length<=i by omega)]
 simp only[dSl,e]
theorem vX{α:Type}{all:List D}{s:Sto}{body:D->Sto->R (Option D)}(g f:α->D)(p:α->Bool):∀(l:List α)(acc:List D),(∀a∈l,body (g a) s=.ok (if p a=true then some (f a) else none) s)->acc.length+l.length<=cap->xM [] all body (l.map g) acc s=.ok (acc++(l.filter p).map f) s
 | [],acc,_,_=>by simp[xM,okG] | x::xs,acc,hb,hl=>by
  have og:okG [] all s:=by intro p hp;simp at hp
  rw[_l,xM,_g og,hb x (by simp)];cases hp:p x with
  | true=>
   have ih:=vX (all:=all) g f p xs (acc++[f x]) (λy hy=>hb y (by simp[hy])) (by simp at hl ⊢;omega);have hc:acc.length<cap:=by simp at hl;omega
   simp[hc,ih,hp] | false=>
   have ih:=vX (all:=all) g f p xs acc (λy hy=>hb y (by simp[hy])) (by simp at hl ⊢;omega);simp[ih,hp]
theorem z5J{α:Type}{fi:FI}{mp:List (Option Nat)}{fg:FG}{ft:FT}{fe:FE}{ρ:Ev}{s:Sto}(g f:α->D)(p:α->Bool)(ev:α->Ev)(l:List α) (hi:fi ρ s=.ok (l.map g,[]) s)(hg:∀a∈l,fg (g a) (zW mp ρ) s=.ok (ev a) s)(ht:∀a∈l,ft (ev a) s=.ok (p a) s)(he:∀a∈l,p a=true->fe (ev a) s=.ok (f a) s)(hl:l.length<=cap): zX fi mp fg ft fe ρ s=.ok (.lst ((l.filter p).map f)) s:=by
 rw[jJ,kq,hi,Rb];rw[vX g f p l [] (by
  intro a ha;simp only[hg a ha,ht a ha,Rb];cases hp:p a with
  | true=>simp[he a ha hp] | false=>simp) (by simpa using hl)];rfl
theorem comp_map{α:Type}{fi:FI}{mp:List (Option Nat)}{fg:FG}{fe:FE}{ρ:Ev}{s:Sto}(g f:α->D)(ev:α->Ev)(l:List α) (hi:fi ρ s=.ok (l.map g,[]) s)(hg:∀a∈l,fg (g a) (zW mp ρ) s=.ok (ev a) s)(he:∀a∈l,fe (ev a) s=.ok (f a) s)(hl:l.length<=cap): zX fi mp fg xJ fe ρ s=.ok (.lst (l.map f)) s:=by
 have:=z5J (ft:=xJ) g f (λ_=>true) ev l hi hg (λa _=>rfl) (λa ha _=>he a ha) hl;rw[show l.filter (λ_=>true)=l from _cL.mpr (by simp)]at this;exact this
theorem jI{f:FE}{ρ:Ev}{s:Sto}{xs:List D}(h:f ρ s=.ok (.tup xs) s):xg f ρ s=.ok (xs,[]) s:=by simp[h]
theorem ut{f:FE}{ρ:Ev}{s:Sto}{xs:List D}(h:f ρ s=.ok (.lst xs) s):xg f ρ s=.ok (xs,[]) s:=by simp[h]
theorem _root_.Pm.Lot.le4{n:Nat}{v:List Int}(h:Lot n v):v.length<=4/\2<=v.length:=by have:=h.len;have:=h.sz;omega
theorem za5{n:Nat}{v:List Int}(h:Lot n v)(s:Sto):um [rD v] s=.ok (.bl true) s:=by
 have l4:=h.le4;have h1:=z6E (iL v) s (by simp;omega);have h2:=z3t v s (by omega);have g1:=z8b s h.ne;have g2:=zaX s h.ne;have mn:0<=minL v:=h.nn _ (minL_mem h.ne);have mx:0<maxL v:=by obtain⟨x,hx,h0⟩:=h.pos;have:=maxL_ge (xs:=v) x hx;omega
 have gl:xL [rD v] s=.ok (.int v.length) s:=by simp[xL,ye]
 have key:∀d:D,wW [d] s=.ok (.bl true) s->xL [d] s=.ok (.int v.length) s->zH [d,.int v.length] s=.ok (.bl true) s->vp [d] s=.ok (.int (maxL v)) s->jQ [d] s=.ok (.int (minL v)) s->um [d] s=.ok (.bl true) s:=λd a1 a2 a3 a4 a5=>by simp[um,Mof,z3y,zK,a1,a2,a3,a4,a5,mn,mx]
 exact key _ h1 gl h2 g1 g2
theorem z6u{n:Nat}{v:List Int}(h:Lot n v)(s:Sto):wv [rD v] s=.ok .non s:=by
 have h1:=za5 h s;have key:∀d:D,um [d] s=.ok (.bl true) s->wv [d] s=.ok .non s:=λd a1=>by simp[wv,Mof,z14,zK,a1]
 exact key _ h1
end Pg
namespace Pm
open L2 (maxL minL maxL_ge maxL_mem minL_le minL_mem n3)
end Pm
namespace Pg
open L2 Dd Pm
theorem xh{M:Mir}{f:FE}{ρ:Ev}{s:Sto}{x:D}(h:f ρ s=.ok x s):ze M (za f zi) ρ s=M [x] s:=by simp only[qw,zN,xk,h,Rb]
theorem call2{M:Mir}{f g:FE}{ρ:Ev}{s:Sto}{x y:D}(h:f ρ s=.ok x s)(h2:g ρ s=.ok y s):ze M (za f (za g zi)) ρ s=M [x,y] s:=by simp only[qw,zN,xk,h,h2,Rb]
theorem z2Y{M:Mir}{f g k:FE}{ρ:Ev}{s:Sto}{x y z:D}(h:f ρ s=.ok x s)(h2:g ρ s=.ok y s)(h3:k ρ s=.ok z s):ze M (za f (za g (za k zi))) ρ s=M [x,y,z] s:=by simp only[qw,zN,xk,h,h2,h3,Rb]
theorem op2{o:D->D->Sto->R D}{f g:FE}{ρ:Ev}{s:Sto}{x y:D}(h:f ρ s=.ok x s)(h2:g ρ s=.ok y s):eOp o f g ρ s=o x y s:=by simp only[z3d,h,h2,Rb]
theorem z8O{i:Int}(h0:0<=i)(h:i<2 ^ 2000):i.natAbs<BIG:=by
 have e:(i.natAbs:Int)=i:=Int.natAbs_of_nonneg h0;have k:(2:Int) ^ 2000<=(BIG:Int):=by decide +kernel
 exact Int.ofNat_lt.mp (Int.lt_of_lt_of_le (by rw[e];exact h) k)
theorem z1e{a b:Int}(s:Sto)(ha:0<=a)(ha':a<2 ^ 2000)(hb:0<=b)(hb':b<2 ^ 2000):qb (.int a) (.int b) s=.ok (.int (a*b)) s:=by rw[zaG,_g ⟨z8O ha ha',z8O hb hb'⟩]
theorem zcd{a b:Int}(s:Sto)(hb:0<b)(hb':b<2 ^ 2000):z6i (.int a) (.int b) s=.ok (.int (a / b)) s:=by rw[zcq,_g ⟨hb,z8O (by omega) hb'⟩]
theorem zdU(ns:List Int)(k:Nat)(s:Sto):∃c,yT [.scr (iL ns),.int k] s=.ok (.int c) s:=by
 by_cases h:k<ns.length
 ·have hk:(k:Int)<ns.length:=by omega
  refine⟨ns[k],?_⟩;have e:ixN (iL ns).length (k:Int)=some k:=by
   unfold ixN;rw[_g (by omega),_g (by simpa using hk)];simp
  have ix:dIx (.scr (iL ns)) (.int k) s=.ok (.int ns[k]) s:=by
   simp only[dIx,ye,atI,e,_ar];simp[h]
  simp only[iL]at ix;simp[yT,Mof,ve,zK,xL,ye,hk,ix]
 ·have hk:¬ (k:Int)<ns.length:=by omega
  exact⟨0,by simp[yT,Mof,ve,zK,xL,ye,hk]⟩
def Pot(s:Sto)(l:Nat):Prop:=∃p:Int,s[l]? = some [.int p]
theorem Pot.lt{s:Sto}{l:Nat}(h:Pot s l):l<s.length:=by
 obtain⟨p,e⟩:=h;exact (_b.mp e).1
theorem Pot.app{s:Sto}{l:Nat}(h:Pot s l)(t:Sto):Pot (s++t) l:=by
 obtain⟨p,e⟩:=h;exact⟨p,by rw[_u (_b.mp e).1];exact e⟩
structure yQ(s s':Sto)(l:Nat):Prop where
 pot:Pot s' l
 len:s'.length=s.length
 oth:∀m,m≠l->s'[m]? = s[m]?
theorem zbj{s:Sto}{l:Nat}{far:Int}(h:Pot s l)(h0:0<far)(h1:far<2 ^ 2000):∃r s',zk [.loc l,.int far] s=.ok (.int r) s'/\0<=r/\r<far/\yQ s s' l:=by
 obtain⟨p,e⟩:=h;have hl:l<s.length:=(_b.mp e).1;refine⟨p % far,s.set l [.int (p / far)],?_,_cE _ (by omega),_bT _ h0,⟨p / far,by rw[_P hl]⟩,by simp,λm hm=>_I (_a1 hm)⟩;have ix:dIx (.loc l) (.int 0) s=.ok (.int p) s:=by simp[dIx,ye,e,atI,ixN]
 simp[zk,Mof,kM,zK,ix,z5x s h0,zcd s h0 h1,e,ixN,z0m,List.replicate]
theorem ze4(s:Sto):zdh (.int 10) (.int 18) s=.ok (.int 1000000000000000000) s:=by rw[zeI];rfl
theorem pow_step{m r j:Nat}(h:m<2147483648 ^ j)(hr:r<2147483587):m*2147483587+r<2147483648 ^ (j+1):=by
 rw[Nat.pow_succ];generalize 2147483648 ^ j=B at h;omega
theorem zeS{m j:Nat}(h:m<2147483648 ^ j)(hj:j<=64):(m:Int)<2 ^ 2000:=by
 have h1:2147483648 ^ j<=2147483648 ^ 64:=_aL (by decide) hj;have h2:2147483648 ^ 64<=2 ^ 2000:=by decide +kernel
 have h3:m<2 ^ 2000:=_w h (_M h1 h2);have h4:((2 ^ 2000:Nat):Int)=2 ^ 2000:=by decide +kernel
 rw[<- h4];exact Int.ofNat_lt.mpr h3
theorem zgh (c:Int) (s:Sto):∃p:Int,wX [.int c] s=.ok (.loc s.length) (s++[[.int p]]):=by
 by_cases h:1000000000000000000<=c;·exact⟨c-1000000000000000000,by simp[wX,Mof,je,zK,ze4,h,D.flat.flats,z0m,cap,List.replicate]⟩
 ·have lp:∃ ρ' s',kJ [some (.int c),some (.int 0),none,none] s=.ok (.nx ρ') s'/\∃(m:Nat) (a b:Option D),ρ'=[some (.int c),some (.int m),a,b]/\s'=s:=by
   obtain⟨ρ',s',e,m,a,b,e1,e2,_⟩:=uD (all:=vg 64) (body:=λd ρ s=>(xK 2 d ρ s).bind fun ρ' s'=>(zZ kK (zZ kE kL)) ρ' s') (λj ρ s'=>∃(m:Nat) (a b:Option D),ρ=[some (.int c),some (.int m),a,b]/\s'=s/\m<2147483648 ^ j) (vg 64) 0 (λj x hx ρ s' hi=>by
    obtain⟨m,a,b,rfl,rfl,hm⟩:=hi;obtain⟨hj,rfl⟩:=z4d hx;rw[_aj]at hm;have r0:=_cE c (show (2147483629:Int)≠0 by decide);have r1:=_bT c (show (0:Int)<2147483629 by decide);have a1:z8a (.int c) (.int 2147483629) s'=.ok (.int (c % 2147483629)) s':=z5x s' (by decide);have a2:qb (.int 7919) (.int j) s'=.ok (.int (7919*j)) s':=z1e s' (by decide) (by decide +kernel) (by omega) (by omega);have a3:qb (.int (c % 2147483629+7919*j+1)) (.int 48271) s'=.ok (.int ((c % 2147483629+7919*j+1)*48271)) s':=z1e s' (by omega) (by omega) (by decide) (by decide +kernel);generalize hx1:(c % 2147483629+7919*(j:Int)+1)*48271 % 2147483647=x1;have b0:0<=x1:=by rw[<- hx1];exact _cE _ (by decide)
    have b1:x1<2147483647:=by rw[<- hx1];exact _bT _ (by decide)
    have a4:z8a (.int ((c % 2147483629+7919*j+1)*48271)) (.int 2147483647) s'=.ok (.int x1) s':=by rw[<- hx1];exact z5x s' (by decide)
    have a5:qb (.int x1) (.int x1) s'=.ok (.int (x1*x1)) s':=z1e s' b0 (by omega) b0 (by omega);have a6:qb (.int 69621) (.int j) s'=.ok (.int (69621*j)) s':=z1e s' (by decide) (by decide +kernel) (by omega) (by omega);generalize hx2:(x1*x1+69621*(j:Int)+7) % 2147483587=x2;have c0:0<=x2:=by rw[<- hx2];exact _cE _ (by decide)
    have c1:x2<2147483587:=by rw[<- hx2];exact _bT _ (by decide)
    have a7:z8a (.int (x1*x1+69621*j+7)) (.int 2147483587) s'=.ok (.int x2) s':=by rw[<- hx2];exact z5x s' (by decide)
    have a8:qb (.int m) (.int 2147483587) s'=.ok (.int (m*2147483587)) s':=z1e s' (by omega) (zeS hm (by omega)) (by decide) (by decide +kernel);obtain⟨y,rfl⟩:=_au c0;refine⟨[some (.int c),some (.int ((m*2147483587+y:Nat):Int)),some (.int j),some (.int y)],s',?_,m*2147483587+y,_,_,rfl,rfl,?_⟩;·simp[a1,a2,a3,a4,a5,a6,a7,a8]
    ·rw[_aj];exact pow_step hm (by omega)) [some (.int c),some (.int 0),none,none] s ⟨0,none,none,rfl,rfl,by decide⟩;exact⟨ρ',s',by simpa using e,m,a,b,e1,e2⟩
  obtain⟨ρ',s',e,m,a,b,rfl,rfl⟩:=lp;refine⟨m,?_⟩;have st:zK ["_law_cell","_law_number","_law_j","_law_more"] [.int c]=[some (.int c),none,none,none]:=rfl;simp only[wX,Mof,je,st,_s,_F,_N];rw[zD (ρ':=[some (.int c),none,none,none]) (s':=s') (by simp[ze4,h])];rw[zD (ρ':=[some (.int c),some (.int 0),none,none]) (s':=s') (by simp)];rw[zD e];simp[D.flat.flats,z0m,cap]
structure LS(s0:Sto)(l:Nat)(s:Sto)(xs:List Int):Prop where
 pot:Pot s l
 len:s.length=s0.length+1
 at_:s[s0.length]? = some (iL xs)
 oth:∀m,m≠l->m<s0.length->s[m]? = s0[m]?
theorem LS.drawn{s0 s s':Sto}{l:Nat}{xs:List Int}(h:LS s0 l s xs)(hl:l<s0.length)(d:yQ s s' l):LS s0 l s' xs:= ⟨d.pot,by rw[d.len,h.len],by rw[d.oth _ (by omega)];exact h.at_,λm h1 h2=>by rw[d.oth m h1];exact h.oth m h1 h2⟩
theorem LS.set{s0 s:Sto}{l:Nat}{xs:List Int}(h:LS s0 l s xs)(hl:l<s0.length)(ys:List Int):LS s0 l (s.set s0.length (iL ys)) ys:=by
 refine⟨?_,by simp[h.len],_P (by rw[h.len];omega),λm h1 h2=>?_⟩
 ·obtain⟨p,e⟩:=h.pot;exact⟨p,by rw[_I (by omega)];exact e⟩
 ·rw[_I (by omega)];exact h.oth m h1 h2
theorem LS.fin{s0 s:Sto}{l:Nat}{xs:List Int}(h:LS s0 l s xs)(hl:l<s0.length):yQ s0 (s.take s0.length) l:=by
 obtain⟨p,e⟩:=h.pot;refine⟨⟨p,by rw[_aE hl];exact e⟩,by simp[h.len],λm h1=>?_⟩;by_cases h2:m<s0.length;·rw[_aE h2];exact h.oth m h1 h2
 ·rw[List.getElem?_eq_none (by simp[h.len];omega),List.getElem?_eq_none (by omega)]
theorem LS.start{s0 s:Sto}{l:Nat}(d:yQ s0 s l)(h:Pot s0 l)(xs:List Int):LS s0 l (s++[iL xs]) xs:= ⟨d.pot.app _,by simp[d.len],by rw[<- d.len];simp,λm h1 h2=>by rw[_u (by rw[d.len];exact h2)];exact d.oth m h1⟩
theorem yQ.refl{s:Sto}{l:Nat}(h:Pot s l):yQ s s l:=⟨h,rfl,λ_ _=>rfl⟩
theorem yQ.trans{s s1 s2:Sto}{l:Nat}(a:yQ s s1 l)(b:yQ s1 s2 l):yQ s s2 l:=⟨b.pot,by rw[b.len,a.len],λm h=>by rw[b.oth m h,a.oth m h]⟩
theorem qp{s:Sto}{l:Nat}{far:Int}{f g:FE}{ρ:Ev}(h:Pot s l)(h0:0<far)(h1:far<2 ^ 2000)(hf:f ρ s=.ok (.loc l) s)(hg:g ρ s=.ok (.int far) s):∃r s',ze zk (za f (za g zi)) ρ s=.ok (.int r) s'/\0<=r/\r<far/\yQ s s' l:=by
 obtain⟨r,s',e,a,b,c⟩:=zbj h h0 h1;exact⟨r,s',by rw[call2 hf hg,e],a,b,c⟩
theorem zaU{xs:List D}{i:Int}{d:D}{s:Sto}(h0:0<=i)(h:xs[i.toNat]? = some d):dIx (.lst xs) (.int i) s=.ok d s:=by
 have hj:i.toNat<xs.length:=(_b.mp h).1;have e:ixN xs.length i=some i.toNat:=by
  unfold ixN;rw[_g h0,_g (by omega)]
 simp only[dIx,ye,atI,e,_ar,h]
theorem zdH{xs:List D}{l:Nat}{i:Int}{d:D}{s:Sto}(hl:s[l]? = some xs)(h0:0<=i)(h:xs[i.toNat]? = some d):dIx (.loc l) (.int i) s=.ok d s:=by
 have hj:i.toNat<xs.length:=(_b.mp h).1;have e:ixN xs.length i=some i.toNat:=by
  unfold ixN;rw[_g h0,_g (by omega)]
 simp only[dIx,ye,hl,atI,e,_ar,h]
theorem z4E{fa fb fc:FE}{ρ:Ev}{s s1 s2:Sto}{L:Nat}{xs:List Int}{i x:Int}(hc:fc ρ s=.ok (.int x) s1)(ha:fa ρ s1=.ok (.loc L) s1)(hb:fb ρ s1=.ok (.int i) s2)(at_:s2[L]? = some (iL xs))(h0:0<=i)(h1:i<xs.length):z3W fa fb fc ρ s=.ok (.nx ρ) (s2.set L (iL (xs.set i.toNat x))):=by
 have e:ixN (iL xs).length i=some i.toNat:=by
  unfold ixN;rw[_g h0,_g (by simp;omega)]
 rw[zcM,hc,Rb,ha,Rb,hb,Rb];simp only[at_,e,z0m,_N,iL,List.map_set]
theorem z91{xs:List Int}{i:Nat}{x B:Int}(h:∀y∈xs,0<=y/\y<=B)(hx:0<=x/\x<=B):∀y∈xs.set i x,0<=y/\y<=B:=λy hy=>by
 rcases _aC hy with h2 | h2;·exact h y h2
 ·rw[h2];exact hx
theorem z1A{x:Int}(h:x<=1000):x<2 ^ 2000:=Int.lt_of_le_of_lt h (by decide +kernel)
theorem z9Z{v:List Int}{n:Nat}{s:Sto}:z4G n (.ok (rD v) s)=.ok (rD v) (s.take n):=ke (wZ v)
theorem zci{ns:List Int}{L:Nat}{s:Sto}{f:FE}{ρ:Ev}(h:ns≠[])(e:s[L]? = some (iL ns))(hf:f ρ s=.ok (.loc L) s):tOf (eOp dEq (ze vp (za f zi)) (eC (.int 0))) ρ s=.ok (decide (maxL ns=0)) s:=by
 rw[zfh,z3d,xh hf,z9Q h e];simp
theorem z6S{ns:List Int}(h:ns≠[])(hn:∀y∈ns,0<=y)(hm:maxL ns≠0):∃x∈ns,0<x:=⟨maxL ns,maxL_mem h,by have:=hn _ (maxL_mem h);omega⟩
noncomputable def okD:Nat->D->Bool
 | _,.non=>true | _,.bl _=>true | _,.int _=>true | _,.str x=>PyData.strOk x | k+1,.tup xs=>xs.all (okD k) | k+1,.lst xs=>xs.all (okD k) | _,_=>false
theorem zga{k:Nat}:∀(xs:List D),(∀x∈xs,PyData.canLay0 (wm x)=true/\PyData.depth (wm x)<=2*k+3/\PyData.eqv (wm x) (wm x)=true)->PyData.canLayAll0 (toPys xs)=true/\PyData.depthAll (toPys xs)<=2*k+4/\PyData.eqvAll (toPys xs) (toPys xs)=true
 | [],_=>⟨rfl,by simp[toPys,PyData.depthAll],by simp[toPys,PyData.eqvAll]⟩ | x::xs,h=>by
  have h1:=h x (by simp);have h2:=zga xs λy hy=>h y (by simp[hy]);refine⟨by simp[toPys,PyData.canLayAll0,h1.1,h2.1],?_,by simp[toPys,PyData.eqvAll,h1.2.2,h2.2.2]⟩;simp only[toPys,PyData.depthAll];omega
theorem zeG:∀(k:Nat)(d:D),okD k d=true->PyData.canLay0 (wm d)=true/\PyData.depth (wm d)<=2*k+3/\PyData.eqv (wm d) (wm d)=true:=by
 intro k;induction k with
 | zero=>
  intro d h;cases d with
  | str x=>simp only[okD]at h;simp[wm,PyData.canLay0,PyData.depth,PyData.eqv,h] | non=>simp[wm,PyData.canLay0,PyData.depth,PyData.eqv] | bl b=>simp[wm,PyData.canLay0,PyData.depth,PyData.eqv] | int i=>simp[wm,PyData.canLay0,PyData.depth,PyData.eqv] | _=>simp[okD]at h
 | succ k ih=>
  intro d h;cases d with
  | str x=>simp only[okD]at h;simp[wm,PyData.canLay0,PyData.depth,PyData.eqv,h] | non=>simp[wm,PyData.canLay0,PyData.depth,PyData.eqv] | bl b=>simp[wm,PyData.canLay0,PyData.depth,PyData.eqv] | int i=>simp[wm,PyData.canLay0,PyData.depth,PyData.eqv] | tup xs=>
   simp only[okD,_ag]at h;have q:=zga (k:=k) xs λx hx=>ih x (h x hx);refine⟨by simp only[wm,PyData.canLay0,q.1],?_,by simp only[wm,PyData.eqv,q.2.2]⟩;simp only[wm,PyData.depth];omega | lst xs=>
   simp only[okD,_ag]at h;have q:=zga (k:=k) xs λx hx=>ih x (h x hx);refine⟨by simp only[wm,PyData.canLay0,q.1],?_,by simp only[wm,PyData.eqv,q.2.2]⟩;simp only[wm,PyData.depth];omega | _=>simp[okD]at h
theorem zdn{k:Nat}{d:D}(h:okD k d=true)(hk:k<=10):z98 d=true:=by
 have q:=zeG k d h;simp only[z98,SeqAt.shaped,q.1];simp;omega
end Pg
namespace Pn
open L2 Dd Pm Pg
noncomputable def isI:D->Bool
 | .int _=>true | _=>false
theorem z1n{d:D}(h:(tyD d).isSome=true)(s:Sto):yD [d] s=.ok (.bl (isI d)) s:=by cases d<;>simp[tyD]at h<;>simp[yD,Mof,ja,zK,gIs,tyD,isT,isI]
def Kd:D->Prop
 | .tup xs=>∀x∈xs,(tyD x).isSome=true | .scr _=>False | d=>(tyD d).isSome=true
theorem Kd.ty{d:D}(h:Kd d):(tyD d).isSome=true:=by cases d<;>first | rfl | exact h | exact (show False from h).elim
theorem all_ints:∀{xs:List D},xs.all isI=true->∃v:List Int,xs=iL v
 | [],_=>⟨[],rfl⟩ | x::xs,h=>by
  rw[List.all_cons,_p]at h;obtain⟨v,rfl⟩:=all_ints h.2;cases x with
  | int i=>exact⟨i::v,rfl⟩ | _=>simp[isI]at h
theorem z5C{α:Type}(l:List α)(p:α->Bool)(s:Sto):z71 [.lst (l.map λx=>D.bl (p x))] s=.ok (.bl (l.all p)) s:=by
 have b:bools (l.map λx=>D.bl (p x))=some (l.map p):=by
  rw[show (l.map λx=>D.bl (p x))=(l.map p).map D.bl by rw[_aI];rfl];exact z3z _
 simp[z71,ye,b]
theorem z2N {xs:List D} (hk:∀x∈xs,(tyD x).isSome=true) (s:Sto) (h:xs.length<=1000):zH [.tup xs,.int xs.length] s=.ok (.bl (xs.all isI)) s:=by
 have st:zK ["thing","many"] [.tup xs,.int xs.length]=[some (.tup xs),some (.int xs.length)]:=rfl;simp only[zH,Mof,xZ,st,_s,_F,_N];rw[zD (ρ':=[some (.tup xs),some (.int xs.length)]) (s':=s) (by simp[gIs,tyD,isT,xL,ye])];have c:=comp_map (fi:=xg (zd 0)) (mp:=[none]) (fg:=xK 0) (fe:=ze yD (za (zd 0) zi)) (ρ:=[some (.tup xs),some (.int xs.length)]) (s:=s) (λx=>x) (λx=>D.bl (isI x)) (λx=>[some x]) xs (by simp) (λa _=>by simp) (λa ha=>by simp[z1n (hk a ha)]) (by simp[cap];omega);simp only[qU,wS,qw,zN,xk,c,Rb,z5C]
structure Bn(m:Nat)(d:D):Prop where
 kd:Kd d
 bd:∀xs i,d=.tup xs->D.int i∈xs->i.natAbs<2 ^ m
theorem Bn.tup{m:Nat}{xs:List D}(h:∀x∈xs,(tyD x).isSome=true/\∀i,x=.int i->i.natAbs<2 ^ m):Bn m (.tup xs):= ⟨λx hx=>(h x hx).1,λys i e hi=>by cases e;exact (h _ hi).2 i rfl⟩
theorem Bn.row{m:Nat}{v:List Int}(h:∀x∈v,x.natAbs<2 ^ m):Bn m (rD v):=Bn.tup λx hx=>by
 obtain⟨y,hy,rfl⟩:=_y.mp hx;exact⟨rfl,λi e=>by cases e;exact h _ hy⟩
theorem Bn.other{m:Nat}{d:D}(h:Kd d)(hn:∀xs,d≠.tup xs):Bn m d:=⟨h,λxs i e _=>absurd e (hn xs)⟩
end Pn
namespace Pm
end Pm
namespace Pg
open L2 Dd Pm
theorem vr{i:Nat}{ρ:Ev}{s:Sto}{d:D}(h:ρ[i]? = some (some d)):zd i ρ s=.ok d s:=by rw[zb3,h]
theorem z96{f g:FS}{t:FT}{ρ:Ev}{s:Sto}(h:t ρ s=.ok false s):fIf t f g ρ s=g ρ s:=by rw[z3M,h,Rb,_j (by decide)]
theorem zau{t u:FT}{ρ:Ev}{s:Sto}(h:t ρ s=.ok false s)(h2:u ρ s=.ok false s):fOr t u ρ s=.ok false s:=by rw[zco,h,Rb,_j (by decide),h2]
theorem vL{f:FE}{ρ:Ev}{s:Sto}{b:Bool}(h:f ρ s=.ok (.bl b) s):tOf f ρ s=.ok b s:=by rw[zfh,h];rfl
theorem z8n{t:FT}{ρ:Ev}{s:Sto}(h:t ρ s=.ok true s):jl t ρ s=.ok false s:=by rw[zbu,h];rfl
end Pg
namespace Pm
end Pm
namespace Pg
open L2 Dd Pm
end Pg
namespace Pm
end Pm
namespace Pg
open L2 Dd Pm
theorem z5r:∀xs:List D,z3i xs xs=xs.map λx=>D.tup [x,x]
 | []=>rfl | x::xs=>by simp[z3i,z5r xs]
section
variable (Mr:Mir)
theorem same_int(i:Int)(s:Sto):Mof ["_law_found","_law_due"] 2 (yA Mr) [.int i,.int i] s=.ok (.bl true) s:= (show _=R.ok (D.bl (decide (i=i))) s by with_unfolding_all rfl).trans (by rw[_aa rfl])
theorem zch(i:Bool)(s:Sto):Mof ["_law_found","_law_due"] 2 (yA Mr) [.bl i,.bl i] s=.ok (.bl true) s:=by cases i<;>with_unfolding_all rfl
theorem zai(s:Sto):Mof ["_law_found","_law_due"] 2 (yA Mr) [.non,.non] s=.ok (.bl true) s:=by with_unfolding_all rfl
theorem z5L {xs:List D} {d:D} (hd:d=.tup xs\/d=.lst xs) (hl:xs.length<=cap) (s:Sto) (h:∀x∈xs,Mr [x,x] s=.ok (.bl true) s):Mof ["_law_found","_law_due"] 2 (yA Mr) [d,d] s=.ok (.bl true) s:=by
 have q:z2I (eOp dEq (ze xL (za (zd 0) zi)) (ze xL (za (zd 1) zi))) (ze z71 (za (zX (zbh (za (zd 0) (za (zd 1) zi))) [none,none] (z13 0 1) xJ (ze Mr (za (zd 0) (za (zd 1) zi)))) zi)) [some d,some d] s=.ok (.bl true) s:=by
  have l:∀i,(zd i:FE) [some d,some d] s=.ok d s->ze xL (za (zd i) zi) [some d,some d] s=.ok (.int xs.length) s:=λi h=>by rw[xh h];rcases hd with rfl | rfl<;>rfl
  rw[z1Z,op2 (l 0 rfl) (l 1 rfl),z7U];simp only[Rb,decide_true];rw[xh (comp_map (λx=>D.tup [x,x]) (λ_=>D.bl true) (λx=>[some x,some x]) xs (by rcases hd with rfl | rfl<;>simp[zb5,z5r]) (λx _=>rfl) (λx hx=>by rw[call2 (x:=x) (y:=x) rfl rfl];exact h x hx) hl),z5B s (by intro x hx;obtain⟨_,_,rfl⟩:=_y.mp hx;rfl)]
 generalize hG:z2I (eOp dEq (ze xL (za (zd 0) zi)) (ze xL (za (zd 1) zi))) (ze z71 (za (zX (zbh (za (zd 0) (za (zd 1) zi))) [none,none] (z13 0 1) xJ (ze Mr (za (zd 0) (za (zd 1) zi)))) zi))=G at q;have z:Mof ["_law_found","_law_due"] 2 (yA Mr) [d,d] s=(match vv G [some d,some d] s with
  | .ok (.rt d) s'=>.ok d s' | .ok (.nx _) s'=>.ok .non s' | _=>.no):=by subst hG;rcases hd with rfl | rfl<;>with_unfolding_all rfl
 rw[z,wS,q];rfl
end
noncomputable def smD:Nat->D->Bool
 | _,.int _=>true | _,.bl _=>true | _,.non=>true | k+1,.tup xs=>xs.all (smD k)&&decide (xs.length<=cap) | k+1,.lst xs=>xs.all (smD k)&&decide (xs.length<=cap) | _,_=>false
theorem z5b:∀(k:Nat)(d:D)(s:Sto),smD k d=true->xi (k+1) [d,d] s=.ok (.bl true) s
 | k,.int i,s,_=>same_int _ i s | k,.bl i,s,_=>zch _ i s | k,.non,s,_=>zai _ s | k+1,.tup xs,s,h=>by
  simp only[smD,_p,_ag,_m]at h;exact z5L _ (.inl rfl) h.2 s λx hx=>z5b k x s (h.1 x hx) | k+1,.lst xs,s,h=>by
  simp only[smD,_p,_ag,_m]at h;exact z5L _ (.inr rfl) h.2 s λx hx=>z5b k x s (h.1 x hx) | 0,.tup xs,s,h=>by simp[smD]at h | 0,.lst xs,s,h=>by simp[smD]at h | 0,.str xs,s,h=>by simp[smD]at h | k+1,.str xs,s,h=>by simp[smD]at h | 0,.dct,s,h=>by simp[smD]at h | k+1,.dct,s,h=>by simp[smD]at h | 0,.loc l,s,h=>by simp[smD]at h | 0,.dlo l,s,h=>by simp[smD]at h | k+1,.loc l,s,h=>by simp[smD]at h | k+1,.dlo l,s,h=>by simp[smD]at h | 0,.fn l,s,h=>by simp[smD]at h | k+1,.fn l,s,h=>by simp[smD]at h | 0,.exc l,s,h=>by simp[smD]at h | k+1,.exc l,s,h=>by simp[smD]at h | 0,.scr l,s,h=>by simp[smD]at h | k+1,.scr l,s,h=>by simp[smD]at h
theorem z7e{d:D}(s:Sto)(h:smD 3 d=true):yV [d,d] s=.ok (.bl true) s:=z5b 3 d s h
theorem z5Z{α:Type}{all:List D}{body:D->Sto->R (Option D)}(g:α->D)(P:Sto->Prop)(Q:D->Prop):∀(l:List α)(acc:List D)(s:Sto),(∀a∈l,∀s,P s->∃y s',body (g a) s=.ok (some y) s'/\Q y/\P s')->acc.length+l.length<=cap->P s->(∀y∈acc,Q y)->∃ys s',xM [] all body (l.map g) acc s=.ok ys s'/\ys.length=acc.length+l.length/\(∀y∈ys,Q y)/\P s'
 | [],acc,s,_,_,hP,hQ=>⟨acc,s,by simp[xM,okG],by simp,hQ,hP⟩ | x::xs,acc,s,hb,hl,hP,hQ=>by
  obtain⟨y,s1,e,hy,hP1⟩:=hb x (by simp) s hP;obtain⟨ys,s2,e2,h1,h2,h3⟩:=z5Z (all:=all) g P Q xs (acc++[y]) s1 (λa ha=>hb a (by simp[ha])) (by simp at hl ⊢;omega) hP1 (by
   intro z hz;rcases _E.mp hz with hz | hz;·exact hQ z hz
   ·simp at hz;rw[hz];exact hy);refine⟨ys,s2,?_,by simp at h1 ⊢;omega,h2,h3⟩;rw[_l,xM,_g (by intro p hp;simp at hp),e];have hc:acc.length<cap:=by simp at hl;omega
  simp[hc,e2]
theorem z7z {α:Type} {fi:FI} {mp:List (Option Nat)} {fg:FG} {fe:FE} {ρ:Ev} {s s0:Sto} (g:α->D) (ev:α->Ev) (P:Sto->Prop) (Q:D->Prop) (l:List α) (hi:fi ρ s=.ok (l.map g,[]) s0) (hg:∀a∈l,∀s,fg (g a) (zW mp ρ) s=.ok (ev a) s) (he:∀a∈l,∀s,P s->∃y s',fe (ev a) s=.ok y s'/\Q y/\P s') (hl:l.length<=cap) (hP:P s0): ∃ys s',zX fi mp fg xJ fe ρ s=.ok (.lst ys) s'/\ys.length=l.length/\(∀y∈ys,Q y)/\P s':=by
 obtain⟨ys,s',e,h1,h2,h3⟩:=z5Z (all:=l.map g) (body:=λd s=>(fg d (zW mp ρ) s).bind fun ρ' s1=>(xJ ρ' s1).bind λt s2=>if t=true then (fe ρ' s2).bind λy s3=>.ok (some y) s3 else .ok none s2) g P Q l [] s0 (λa ha s hP=>by
  obtain⟨y,s',e,hq,hp⟩:=he a ha s hP;exact⟨y,s',by simp[hg a ha s,e],hq,hp⟩) (by simpa using hl) hP (by simp);refine⟨ys,s',?_,by simpa using h1,h2,h3⟩;rw[jJ,kq,hi,Dd.R.bind_ok];rw[e];rfl
theorem uU{ar:FA}{ρ:Ev}{s s1:Sto}{n:Nat}(hn:n<=1000)(h:ar ρ s=.ok [.int n] s1):z2l ar ρ s=.ok ((List.range n).map λk:Nat=>D.int ((k:Nat):Int),[]) s1:=by
 rw[zeC,h,Dd.R.bind_ok];simp only;rw[_g ⟨by omega,by omega⟩];simp[vg]
end Pg
namespace Pn
open L2 Dd Pm Pg
noncomputable def qA(n:Nat):D->Bool
 | .tup ys=>decide (ys.length=n)&&ys.all isI | _=>false
theorem z2e{x:D}{n:Nat}(hk:Kd x)(hn:n<=1000)(s:Sto):zH [x,.int n] s=.ok (.bl (qA n x)) s:=by cases x with
 | tup ys=>
  by_cases h:ys.length=n
  ·subst h;rw[z2N hk s hn];simp[qA]
  ·have h':¬ ((ys.length:Int)=n):=by omega
   simp[zH,Mof,xZ,zK,gIs,tyD,isT,xL,ye,h',qA,h] | scr _=>exact hk.elim | _=>
  have hd:=hk.ty;first
  | (exfalso;simp[tyD]at hd;done) | simp[zH,Mof,xZ,zK,gIs,tyD,isT,qA]
structure Tn(m:Nat)(d:D):Prop where
 ty:(tyD d).isSome=true
 it:∀xs,d=.tup xs->∀x∈xs,Bn m x
theorem Tn.tup{m:Nat}{xs:List D}(h:∀x∈xs,Bn m x):Tn m (.tup xs):=⟨rfl,λys e x hx=>by cases e;exact h x hx⟩
theorem Tn.other{m:Nat}{d:D}(h:(tyD d).isSome=true)(hn:∀xs,d≠.tup xs):Tn m d:=⟨h,λxs e=>absurd e (hn xs)⟩
theorem z7h{s:Sto}{x y:List D}:(s++[x]).set s.length y=s++[y]:=by simp
end Pn
namespace Pm
open L2 (maxL minL maxL_ge maxL_mem minL_le minL_mem)
end Pm
namespace Pg
open L2 Dd Pm
theorem z5o{α:Type}{all:List D}{body:D->Sto->R (Option D)}(g:α->D)(P:Nat->Sto->Prop)(Q:D->Prop):∀(l:List α)(j:Nat)(acc:List D)(s:Sto),(∀i a,l[i]? = some a->∀s,P (j+i) s->∃y s',body (g a) s=.ok (some y) s'/\Q y/\P (j+i+1) s')->acc.length+l.length<=cap->P j s->(∀y∈acc,Q y)->∃ys s',xM [] all body (l.map g) acc s=.ok ys s'/\ys.length=acc.length+l.length/\(∀y∈ys,Q y)/\P (j+l.length) s'
 | [],j,acc,s,_,_,hP,hQ=>⟨acc,s,by simp[xM,okG],by simp,hQ,hP⟩ | x::xs,j,acc,s,hb,hl,hP,hQ=>by
  obtain⟨y,s1,e,hy,hP1⟩:=hb 0 x (by simp) s hP;obtain⟨ys,s2,e2,h1,h2,h3⟩:=z5o (all:=all) g P Q xs (j+1) (acc++[y]) s1 (λi a ha s h=>by
   have:=hb (i+1) a (by simpa using ha) s (by rw[show j+(i+1)=j+1+i by omega];exact h);rw[show j+(i+1)+1=j+1+i+1 by omega]at this;exact this) (by simp at hl ⊢;omega) hP1 (by
   intro z hz;rcases _E.mp hz with hz | hz;·exact hQ z hz
   ·simp at hz;rw[hz];exact hy);refine⟨ys,s2,?_,by simp at h1 ⊢;omega,h2,by rw[_s,show j+(xs.length+1)=j+1+xs.length by omega];exact h3⟩;rw[_l,xM,_g (by intro p hp;simp at hp),e];have hc:acc.length<cap:=by simp at hl;omega
  simp[hc,e2]
theorem zam {α:Type} {fi:FI} {mp:List (Option Nat)} {fg:FG} {fe:FE} {ρ:Ev} {s s0:Sto} (g:α->D) (ev:α->Ev) (P:Nat->Sto->Prop) (Q:D->Prop) (l:List α) (hi:fi ρ s=.ok (l.map g,[]) s0) (hg:∀a∈l,∀s,fg (g a) (zW mp ρ) s=.ok (ev a) s) (he:∀i a,l[i]? = some a->∀s,P i s->∃y s',fe (ev a) s=.ok y s'/\Q y/\P (i+1) s') (hl:l.length<=cap) (hP:P 0 s0): ∃ys s',z3l fi mp fg xJ fe ρ s=.ok ys s'/\ys.length=l.length/\(∀y∈ys,Q y)/\P l.length s':=by
 obtain⟨ys,s',e,h1,h2,h3⟩:=z5o (all:=l.map g) (body:=λd s=>(fg d (zW mp ρ) s).bind fun ρ' s1=>(xJ ρ' s1).bind λt s2=>if t=true then (fe ρ' s2).bind λy s3=>.ok (some y) s3 else .ok none s2) g P Q l 0 [] s0 (λi a ha s hP=>by
  rw[_aj]at hP ⊢;obtain⟨y,s',e,hq,hp⟩:=he i a ha s hP;exact⟨y,s',by simp[hg a (_d ha) s,e],hq,hp⟩) (by simpa using hl) hP (by simp);refine⟨ys,s',?_,by simpa using h1,h2,by simpa using h3⟩;rw[kq,hi,Dd.R.bind_ok];exact e
theorem z9n{α:Type}{fi:FI}{mp:List (Option Nat)}{fg:FG}{fe:FE}{ρ:Ev}{s s0:Sto}(g:α->D)(ev:α->Ev)(P:Nat->Sto->Prop)(Q:D->Prop)(l:List α) (hi:fi ρ s=.ok (l.map g,[]) s0)(hg:∀a∈l,∀s,fg (g a) (zW mp ρ) s=.ok (ev a) s)(he:∀i a,l[i]? = some a->∀s,P i s->∃y s',fe (ev a) s=.ok y s'/\Q y/\P (i+1) s')(hl:l.length<=cap)(hP:P 0 s0)(hf:∀y,Q y->y.flat=true): ∃ys s',z1M fi mp fg xJ fe ρ s=.ok (.loc s'.length) (s'++[ys])/\ys.length=l.length/\(∀y∈ys,Q y)/\P l.length s':=by
 obtain⟨ys,s',e,h1,h2,h3⟩:=zam g ev P Q l hi hg he hl hP;have fl:∀zs:List D,(∀y∈zs,Q y)->D.flat.flats zs=true:=λzs=>by induction zs with
  | nil=>intro _;rfl | cons z zs ih=>intro hz;simp only[D.flat.flats,_p];exact⟨hf z (hz z (by simp)),ih λy hy=>hz y (by simp[hy])⟩
 exact⟨ys,s',by rw[z9j,e,Dd.R.bind_ok,_g (fl ys h2)],h1,h2,h3⟩
end Pg
namespace Po
open L2 Dd Pm Pg Pn
theorem z6o{f g:FS}{t:FT}{ρ:Ev}{s:Sto}(h:t ρ s=.ok true s):fIf t f g ρ s=f ρ s:=by rw[z3M,h,Rb,_g rfl]
section
end
end Po
namespace Pr
open L2 Dd Pm Pg Pn Po
end Pr
namespace Pn
open L2 Dd Pm Pg
end Pn
namespace Po
open L2 Dd Pm Pg Pn
open PySem.Builtin.Str
end Po
namespace Po
open L2 Dd Pm Pg Pn
end Po
namespace Pr
open L2 Dd Pm Pg Pn Po
open PySem.W
theorem z3s {α β:Type} {all:List D} {s:Sto} {fi2:D->Sto->R ItD} {fb:D->D->Sto->R D} (g:α->D) (g2:α->β->D) (l2:α->List β) (f:α->β->D):∀(l:List α) (acc:List D),(∀a∈l,fi2 (g a) s=.ok ((l2 a).map (g2 a),[]) s)->(∀a∈l,∀b∈l2 a,fb (g a) (g2 a b) s=.ok (f a b) s)->acc.length+(l.flatMap λa=>(l2 a).map (f a)).length<=cap-> z2s [] all (λd acc s=>(fi2 d s).bind λit2 s2=>xM it2.2 it2.1 (λd2 s=>(fb d d2 s).bind λd s3=>.ok (some d) s3) it2.1 acc s2) (l.map g) acc s=.ok (acc++l.flatMap λa=>(l2 a).map (f a)) s
 | [],acc,_,_,_=>by simp[z2s,okG] | x::xs,acc,h1,h2,hl=>by
  have og:okG [] all s:=by intro p hp;simp at hp
  rw[List.flatMap_cons,_H,_o]at hl;rw[_l,z2s,_g og,h1 x (by simp),Rb];have c:=vX (s:=s) (all:=(l2 x).map (g2 x)) (body:=λd2 s=>(fb (g x) d2 s).bind λd s3=>.ok (some d) s3) (g2 x) (f x) (λ_=>true) (l2 x) acc (λb hb=>by simp[h2 x (by simp) b hb]) (by omega);rw[c,Rb,_cL.mpr (by simp)];rw[z3s g g2 l2 f xs _ (λa ha=>h1 a (by simp[ha])) (λa ha=>h2 a (by simp[ha])) (by simp only[_H,_o];omega)];simp
theorem z8m {α β:Type} {fi:FI} {mp:List (Option Nat)} {k1 k2:Nat} {fi2:FI} {fe:FE} {ρ:Ev} {s:Sto} (g:α->D) (g2:α->β->D) (l:List α) (l2:α->List β) (f:α->β->D) (hi:fi ρ s=.ok (l.map g,[]) s) (hi2:∀a∈l,fi2 ((zW mp ρ).set k1 (some (g a))) s=.ok ((l2 a).map (g2 a),[]) s) (he:∀a∈l,∀b∈l2 a,fe (((zW mp ρ).set k1 (some (g a))).set k2 (some (g2 a b))) s=.ok (f a b) s) (hl:(l.flatMap λa=>(l2 a).map (f a)).length<=cap):z4n fi mp k1 k2 fi2 fe ρ s=.ok (.lst (l.flatMap λa=>(l2 a).map (f a))) s:=by
 unfold z4n z5F;rw[hi,Rb,z3s (fi2:=λd s=>fi2 ((zW mp ρ).set k1 (some d)) s) (fb:=λd d2 s=>fe (((zW mp ρ).set k1 (some d)).set k2 (some d2)) s) g g2 l2 f l [] hi2 he (by simpa using hl)];rfl
end Pr
namespace Dd
open L2 PySem.W Pm Pr
end Dd
namespace L2
def z6Q(H:Hp)(a:Addr)(kvs:List (Key×V)):Prop:=H a=some (.dK kvs)\/(kvs=[]/\H a=some (.dT []))
section
variable {X:Cx}{pins:List (Addr×Obj)}{O:St}{H:Hp}{s:Shared}{a:Addr}{kvs:List (Key×V)}{k:Key}
theorem z2q(I:Inv X pins O H s)(h:z6Q H a kvs):kvs.length<=sizeLine/\(a==sysModules)=false/\∃vs,KV kvs vs/\s.heap.DictOf (yJ X.prog X.w) a vs:=by
 rcases h with h | ⟨rfl,h⟩;·exact zgn I.hok h
 ·obtain⟨z,hd,xs,rel,o,es,ep,h1,h2,h3,h4,h5⟩:=(show yN X.prog X.w H s.heap a (.dT []) from I.hok a _ h);cases rel;have e:es=#[]:=by
   have:es.toList=[]:=h4;exact Array.toList_eq_nil_iff.mp this
  subst e;exact⟨z,hd,[],.nil,o,#[],ep,h1,h2,h3,λe he=>by simp at he,.nil,List.nodup_nil⟩
theorem z60(h:z6Q H a kvs):Mut (H a):=by rcases h with h | ⟨_,h⟩<;>rw[h]<;>exact True.intro
theorem z8w:MtR X "dict.setdefault" (λx vs H Q=>∃a kvs k z,x=.ref a/\vs=[kV k,z]/\z6Q H a kvs/\kvs.length<sizeLine/\(∀v,qk kvs k=some v->Q v H)/\(qk kvs k=none->Q z (upd H a (.dK (z36 kvs k z))))):=by
 intro pins s O H x vs v us Q I rx rv h;obtain⟨a,kvs,k,z,rfl,rfl,hD,hl,q1,q2⟩:=h;cases rx;obtain⟨u,r,rfl,ru,rr⟩:=rv.two;obtain⟨z1,hd,ws,rel,dd⟩:=z2q I hD;have rl:=rel.val k;refine _dA PySem.F.slot_dict_setdefault dd.typeIs PySem.F.entry_dict_setdefault (PySem.F.args_dict_setdefault_3 _ _ _) (kt_meets_setdefault (yJ X.prog X.w) a (z6Y ru) hd r) ⟨ws,dd,by rw[<- rel.length];exact z1,λw hw=>?_,λhn h' dd' hs=>?_⟩
 ·rw[hw]at rl;cases hv:qk kvs k with
  | none=>rw[hv]at rl;exact rl.elim | some y=>
   rw[hv]at rl;exact⟨y,H,I.tok _,rl,q1 y hv⟩
 ·rw[hn]at rl;cases hv:qk kvs k with
  | some y=>rw[hv]at rl;exact rl.elim | none=>
   have he:∃q,h'.get? a=some q:=let ⟨q,_,_,hq,_⟩:=dd';⟨q,hq⟩;have hl':(z36 kvs k z).length<=sizeLine:=by have:=z1i kvs k z;omega
   exact⟨z,_,z7j I (z60 hD) hs he (zaH hl' hd (rel.put k rr) dd'),rr,q2 hv⟩
end
end L2
namespace Dd
open L2
noncomputable def yL(k:Int):List D->Option (Option (List D×Bool))
 | []=>some none | .tup [.int i,.lst ys]::t=>if i=k then some (some (ys,false)) else yL k t | .tup [.int i,.lst ys,.non]::t=>if i=k then some (some (ys,true)) else yL k t | _=>none
noncomputable def vI(k:Int)(v:D):List D->List D
 | .tup [.int i,.lst ys]::t=>if i=k then .tup [.int i,.lst (ys++[v])]::t else .tup [.int i,.lst ys]::vI k v t | d::t=>d::vI k v t | []=>[]
noncomputable def frzK(k:Int):List D->List D
 | .tup [.int i,.lst ys]::t=>if i=k then .tup [.int i,.lst ys,.non]::t else .tup [.int i,.lst ys]::frzK k t | d::t=>d::frzK k t | []=>[]
section
variable {mg:Gm}{H H':Hp}{Y:List Addr}{s:Sto}{l:Nat}{a p b:Addr}{xs ys:List D}{kvs:List (Key×V)}{k:Int}{vs:List V}{d:D}{v:V}
theorem z1f:∀{kvs:List (Key×V)}{k:Key}{v:V},qk kvs k=some v->∃j:Nat,kvs[j]? = some (k,v)
 | [],k,v,h=>by simp[z5G]at h | (k',v')::r,k,v,h=>by
  by_cases e:k'=k
  ·rw[wf (p:=(k',v')) e]at h;cases h;exact⟨0,by simp[e]⟩
  ·rw[yI (p:=(k',v')) e]at h;obtain⟨j,hj⟩:=z1f h;exact⟨j+1,by simpa using hj⟩
theorem kX{i k:Int}(h:¬ i=k):¬ ((Sum.inl i:Key)=Sum.inl k):=λz=>h (by injection z)
theorem jA:∀{xs:List D}{kvs:List (Key×V)},wM mg H Y xs kvs->yL k xs=some none->qk kvs (.inl k)=none
 | [],kvs,h,_=>by simp only[wM]at h;subst h;rfl | x::xs,kvs,h,g=>by
  obtain⟨i,ys,b,vs,r,rfl,h1,h2,h3⟩:=h;rcases h2 with⟨rfl,_⟩ | ⟨rfl,_⟩;all_goals
   simp only[yL]at g;split at g;·simp at g
   ·rename_i ne;rw[yI (kX ne)];exact jA h3 g
theorem vW:∀{xs:List D}{kvs:List (Key×V)}{ys:List D}{z:Bool},wM mg H Y xs kvs->yL k xs=some (some (ys,z))->∃b vs,qk kvs (.inl k)=some (.ref b)/\zq mg H Y ys vs/\(z=false->H b=some (.lst vs))/\(z=true->∃o,H b=some (.frz o (.lst vs)))
 | [],kvs,ys,z,h,g=>by simp[yL]at g | x::xs,kvs,ys,z,h,g=>by
  obtain⟨i,ys',b,vs,r,rfl,h1,h2,h3⟩:=h;rcases h2 with⟨rfl,q⟩ | ⟨rfl,q⟩;all_goals
   simp only[yL]at g;split at g
   ·rename_i e;subst e;simp only[_D,_aX]at g;obtain⟨rfl,rfl⟩:=g;exact⟨b,vs,wf rfl,h1,by simp[q],by simp[q]⟩
   ·rename_i ne;rw[yI (kX ne)];exact vW h3 g
def UqK(kvs:List (Key×V)):Prop:=∀(i j:Nat) k k' b,kvs[i]? = some (k,V.ref b)->kvs[j]? = some (k',V.ref b)->i=j
theorem UqK.tail{p:Key×V}{r:List (Key×V)}(h:UqK (p::r)):UqK r:=λi j k k' b h1 h2=>by
 have:=h (i+1) (j+1) k k' b (by simpa using h1) (by simpa using h2);omega
theorem z1L{α:Type}{x:α}{l:List α}(h:x∈l):∃j:Nat,l[j]? = some x:=by
 obtain⟨j,hj,e⟩:=_Y.mp h;exact⟨j,by rw[_n hj,e]⟩
theorem z0P(g:∀ys ws,zq mg H Y ys ws->zq mg H' Y ys ws)(dn:Den mg H' Y d v)(hb:H b=some (.lst vs))(e:H'=upd H b (.lst (vs++[v]))):∀{xs:List D}{kvs:List (Key×V)},wM mg H Y xs kvs->UqK kvs->yL k xs=some (some (ys,false))->qk kvs (.inl k)=some (.ref b)->wM mg H' Y (vI k d xs) kvs
 | [],kvs,h,_,q,_=>by simp[yL]at q | x::xs,kvs,h,u,q,w=>by
  obtain⟨i,zs,c,ws,r,rfl,h1,h2,h3⟩:=h;have fz:∀b' o ws,H b'=some (.frz o (.lst ws))->H' b'=some (.frz o (.lst ws)):=λb' o ws z=>by rw[e,zg (λy=>by subst y;rw[hb]at z;cases z)];exact z
  rcases h2 with⟨rfl,hc⟩ | ⟨rfl,o,hc⟩
  ·simp only[yL]at q;simp only[vI];split at q
   ·rename_i ei;subst ei;rw[_g rfl];rw[wf rfl]at w;cases w;rw[hb]at hc;cases hc;refine⟨i,zs++[d],b,vs++[v],r,rfl,(g _ _ h1).append (zq.one dn),.inl ⟨rfl,by rw[e,zu]⟩,h3.imp (λ_ _ _ _ z=>g _ _ z) (λk' b' ws' hm z=>?_) fz⟩;obtain⟨j,hj⟩:=z1L hm;rw[e,zg (λy=>by
     subst y;have:=u 0 (j+1) (Sum.inl i) _ _ rfl (by simpa using hj);omega)];exact z
   ·rename_i ne;rw[_j ne];rw[yI (kX ne)]at w;refine⟨i,zs,c,ws,r,rfl,g _ _ h1,.inl ⟨rfl,?_⟩,z0P g dn hb e h3 u.tail q w⟩;obtain⟨j,hj⟩:=z1f w;rw[e,zg (λy=>by
     subst y;have:=u 0 (j+1) (Sum.inl i) _ _ rfl (by simpa using hj);omega)];exact hc
  ·simp only[yL]at q;simp only[vI];split at q;·simp at q
   ·rename_i ne;rw[yI (kX ne)]at w;exact⟨i,zs,c,ws,r,rfl,g _ _ h1,.inr ⟨rfl,o,fz _ _ _ hc⟩,z0P g dn hb e h3 u.tail q w⟩
theorem z0Y{x:D}{q:Key×V}:∀{xs:List D}{kvs:List (Key×V)},wM mg H Y xs kvs->wM mg H Y [x] [q]->wM mg H Y (xs++[x]) (kvs++[q])
 | [],kvs,h,h'=>by simp only[wM]at h;subst h;exact h' | y::xs,kvs,h,h'=>by
  obtain⟨i,zs,c,ws,r,rfl,h1,h2,h3⟩:=h;exact⟨i,zs,c,ws,r++[q],rfl,h1,h2,z0Y h3 h'⟩
theorem yw.touch(r:Rep mg H Y s)(ha:Y[l]? = some a)(hx:s[l]? = some xs)(hp:H p=none)(hD:(kvs=[]/\xs=[]/\H a=some (.dT []))\/(kvs≠[]/\H a=some (.dK kvs)/\wM mg H Y xs kvs)): yw mg H Y (upd (upd H p (.lst [])) a (.dK (kvs++[(.inl k,.ref p)]))) Y (s.set l (xs++[.tup [.int k,.lst []]])):=by
 have hai:a∈Y:=_d ha;have pn:p∉Y:=r.notin hp;have hll:l<s.length:=by rw[<- r.len];exact (_b.mp ha).1
 have pa:p≠a:=λz=>pn (z ▸ hai);have ka:∀o,H a=some o->(∀kvs,o≠.dT kvs)->(∀kvs,kvs≠[]->o≠.dK kvs)->False:=λo e n2 n3=>by
  rcases hD with⟨_,_,z⟩ | ⟨n,z,_⟩;·rw[e]at z;exact n2 _ (_v z)
  ·rw[e]at z;exact n3 _ n (_v z)
 have nl:∀ws,H a≠some (.lst ws):=λws e=>ka _ e (by intro _ z;cases z) (by intro _ _ z;cases z);have same:∀{b},b≠a->b≠p->upd (upd H p (.lst [])) a (.dK (kvs++[(.inl k,.ref p)])) b=H b:=λ{b} h1 h2=>by rw[zg h1,zg h2]
 have np:∀{b o},H b=some o->b≠p:=λ{b o} e z=>by rw[z,hp]at e;cases e
 have atp:upd (upd H p (.lst [])) a (.dK (kvs++[(.inl k,.ref p)])) p=some (.lst []):=by rw[zg pa,zu]
 have ata:upd (upd H p (.lst [])) a (.dK (kvs++[(.inl k,.ref p)])) a=some (.dK (kvs++[(.inl k,.ref p)])):=zu;generalize hH:upd (upd H p (.lst [])) a (.dK (kvs++[(.inl k,.ref p)]))=H' at same atp ata;have kp:Kp H H':=by
  refine⟨λb o q n1 n2 n3=>?_,λb ⟨ws,q⟩=>?_,λb q=>?_⟩
  ·by_cases z:b=a;·subst z;exact (ka o q n2 n3).elim
   ·rw[same z (np q)];exact q
  ·by_cases z:b=a;·subst z;exact (nl ws q).elim
   ·exact⟨ws,by rw[same z (np q)];exact q⟩
  ·by_cases z:b=a;·subst z;exact .inr (.inr (.inl ⟨_,by simp,ata⟩))
   ·have:H' b=H b:=same z (by rcases q with⟨_,q⟩ | ⟨_,_,q⟩ | ⟨_,_,q⟩ | ⟨_,_,q⟩<;>exact np q);rw[IsC,this];exact q
 have cases_:∀{a' kvs'},H' a'=some (.dK kvs')->a'∈Y->(a'=a/\kvs'=kvs++[(Sum.inl k,V.ref p)])\/(a'≠a/\H a'=some (.dK kvs')):=λ{a' kvs'} e m=>by
  by_cases z:a'=a;·subst z;rw[ata]at e;cases e;exact .inl ⟨rfl,rfl⟩
  ·rw[same z (λy=>pn (y ▸ m))]at e;exact .inr ⟨z,e⟩
 have old:∀{q b},(q,V.ref b)∈kvs->Own H Y b:=λ{q b} hm=>by
  rcases hD with⟨rfl,_,_⟩ | ⟨_,z,_⟩;·simp at hm
  ·exact⟨a,hai,kvs,q,z,hm⟩
 have ow:∀b,Own H' Y b->Own H Y b\/b=p:=λb ⟨a',m,kvs',q,e,hm⟩=>by
  rcases cases_ e m with⟨rfl,rfl⟩ | ⟨_,e⟩
  ·rcases _E.mp hm with hm | hm;·exact .inl (old hm)
   ·simp at hm;exact .inr hm.2
  ·exact .inl ⟨a',m,kvs',q,e,hm⟩
 have wst:∀b ws,b∉Y->H b=some (.lst ws)->H' b=some (.lst ws):=λb ws hb q=>by rw[same (show b≠a from λz=>hb (z ▸ hai)) (np q)];exact q
 have fzs:∀b o ws,H b=some (.frz o (.lst ws))->H' b=some (.frz o (.lst ws)):=λb o ws q=>kp.k b _ q (by intro _ z;cases z) (by intro _ z;cases z) (by intro _ _ z;cases z);refine⟨⟨by simp[r.len],r.nd,λj zs h=>?_,λzs h=>?_,λb h=>?_,?_⟩,_aV _,λb o h hb _=>?_,λa h1 h2=>absurd h1 h2,λb hb=>(r.mt b hb).imp (λh=>⟨h,kp.l b h⟩) λh=>⟨h,kp.c b h,λ_ _ e=>kp.k b _ e (by intro _ z;cases z) (by intro _ z;cases z) (by intro _ _ z;cases z)⟩,λb h=>?_,λb h=>(ow b h).imp id λz=>by rw[z];exact hp⟩
 ·by_cases hj:l=j
  ·subst hj;rw[_P hll]at h;cases h;refine⟨a,ha,.inr (.inr (.inr (.inl ⟨_,by simp,ata,z0Y ?_ ⟨k,[],p,[],[],rfl,zq.nil,.inl ⟨rfl,atp⟩,rfl⟩⟩)))⟩;rcases hD with⟨rfl,rfl,_⟩ | ⟨_,z,dk⟩;·rfl
   ·exact dk.imp (λ_ _ _ _ q=>q.gen kp λ_ _ q=>q) (λq b ws hm=>wst b ws (r.own b (old hm))) fzs
  ·rw[_I hj]at h;obtain⟨b,h1,h2⟩:=r.cell j zs h;refine⟨b,h1,h2.gen kp (λ_ _ q=>q) (same ?_ λz=>pn (z ▸ _d h1)) (_d h1) r.own wst⟩;rintro rfl;exact hj ((_aU r.nd).mp (((_b.mp ha).2).trans ((_b.mp h1).2).symm))
 ·rcases _aC h with h | h;·exact r.flat zs h
  ·rw[h];exact xp (r.flat xs (_d hx)) rfl
 ·rcases ow b h with h | rfl;·exact r.own b h
  ·exact pn
 ·intro a1 m1 a2 m2 k1 k2 i j q1 q2 b e1 e2 g1 g2;have op:∀{q b},(q,V.ref b)∈kvs->b≠p:=λ{q b} hm z=>by obtain⟨u,hu⟩:=r.ownAt (old hm);exact np hu z
  have ot:∀{a' kvs' q b},a'∈Y->H a'=some (.dK kvs')->(q,V.ref b)∈kvs'->b≠p:=λ{a' kvs' q b} m e hm z=>by obtain⟨u,hu⟩:=r.ownAt ⟨a',m,kvs',q,e,hm⟩;exact np hu z
  have lastP:∀{i:Nat} {q b},(kvs++[(Sum.inl k,V.ref p)])[i]? = some (q,V.ref b)->(kvs[i]? = some (q,V.ref b))\/(i=kvs.length/\b=p):=λ{i q b} g=>by
   by_cases hi:i<kvs.length;·rw[_u hi]at g;exact .inl g
   ·rw[_Q (by omega)]at g;have:i-kvs.length=0:=by
     have:=(_b.mp g).1;simp at this;omega
    rw[this]at g;simp at g;exact .inr ⟨by omega,g.2.symm⟩
  have hk:∀{i:Nat} {q b},kvs[i]? = some (q,V.ref b)->H a=some (.dK kvs):=λ{i q b} g=>by
   rcases hD with⟨rfl,_,_⟩ | ⟨_,z,_⟩;·simp at g
   ·exact z
  rcases cases_ e1 m1 with⟨rfl,rfl⟩ | ⟨n1,e1⟩<;>rcases cases_ e2 m2 with⟨rfl,rfl⟩ | ⟨n2,e2⟩
  ·rcases lastP g1 with g1 | ⟨rfl,rfl⟩<;>rcases lastP g2 with g2 | ⟨rfl,z⟩;·exact r.uq _ m1 _ m1 _ _ i j q1 q2 b (hk g1) (hk g1) g1 g2
   ·exact absurd z (op (_d g1))
   ·exact absurd rfl (op (_d g2))
   ·exact⟨rfl,rfl⟩
  ·rcases lastP g1 with g1 | ⟨rfl,rfl⟩;·exact r.uq _ m1 _ m2 _ _ i j q1 q2 b (hk g1) e2 g1 g2
   ·exact absurd rfl (ot m2 e2 (_d g2))
  ·rcases lastP g2 with g2 | ⟨rfl,rfl⟩;·exact r.uq _ m1 _ m2 _ _ i j q1 q2 b e1 (hk g2) g1 g2
   ·exact absurd rfl (ot m1 e1 (_d g1))
  ·exact r.uq _ m1 _ m2 _ _ i j q1 q2 b e1 e2 g1 g2
 ·rw[same (show b≠a from λz=>hb (z ▸ hai)) (np h)];exact h
 ·rw[<- hH]at h;exact vn (vn h)
theorem yw.layP{o:HO}(r:Rep mg H Y s)(hp:H p=none):yw mg H Y (upd H p o) Y s:= have d:DkS H Y (upd H p o) Y:=λa ha kvs e=>⟨ha,by rw[zg (show a≠p from λz=>r.notin hp (z ▸ ha))]at e;exact e⟩;⟨⟨r.len,r.nd,λl xs h=>let ⟨a,h1,h2⟩:=r.cell l xs h;⟨a,h1,h2.gen (.new hp) (λ_ _ q=>q) (zg (h2.ne hp)) (_d h1) r.own (λb vs _ q=>xN hp b _ q)⟩,r.flat,λb h=>r.own b (d.own h),d.uq r⟩,_aV _,λb u h _ _=>xN hp b u h,λa h1 h2=>absurd h1 h2,λa ha=>(r.mt a ha).imp (λh=>⟨h,(Kp.new hp).l a h⟩) λh=>⟨h,(Kp.new hp).c a h,λ_ _ e=>xN hp a _ e⟩,λb h=>vn h,λb h=>.inl (d.own h)⟩
theorem jW(hd:d.flat=true):∀{xs:List D},D.flat.flats xs=true->D.flat.flats (vI k d xs)=true
 | [],h=>by simpa[vI] using h | x::xs,h=>by
  simp only[D.flat.flats,_p]at h;unfold vI;split
  ·rename_i i ys t e;cases e;split
   ·simp only[D.flat.flats,D.flat,_bA,_aG,_p]at h ⊢;exact⟨xp h.1 (by simp[D.flat.flats,hd]),h.2⟩
   ·simp only[D.flat.flats,_p];exact⟨h.1,jW hd h.2⟩
  ·rename_i e;cases e;simp only[D.flat.flats,_p];exact⟨h.1,jW hd h.2⟩
  ·rename_i e;cases e
theorem yw.push(r:Rep mg H Y s)(ha:Y[l]? = some a)(hx:s[l]? = some xs)(n:kvs≠[])(hk:H a=some (.dK kvs))(hd:wM mg H Y xs kvs)(hg:yL k xs=some (some (ys,false)))(hv:qk kvs (.inl k)=some (.ref b))(hb:H b=some (.lst vs))(dn:Den mg H Y d v)(df:d.flat=true): yw mg H Y (upd H b (.lst (vs++[v]))) Y (s.set l (vI k d xs)):=by
 have hai:a∈Y:=_d ha;have hll:l<s.length:=by rw[<- r.len];exact (_b.mp ha).1
 obtain⟨jb,hjb⟩:=z1f hv;have own:Own H Y b:=⟨a,hai,kvs,_,hk,_d hjb⟩;have bn:b∉Y:=r.own b own;have kp:Kp H (upd H b (.lst (vs++[v]))):=.putL ⟨vs,hb⟩;have same:∀{c},c∈Y->upd H b (.lst (vs++[v])) c=H c:=λ{c} m=>zg (λz=>bn (z ▸ m));have d0:DkS H Y (upd H b (.lst (vs++[v]))) Y:=λc m kvs e=>⟨m,by rw[same m]at e;exact e⟩;have fzs:∀c o ws,H c=some (.frz o (.lst ws))->upd H b (.lst (vs++[v])) c=some (.frz o (.lst ws)):=λc o ws q=>kp.k c _ q (by intro _ z;cases z) (by intro _ z;cases z) (by intro _ _ z;cases z);refine⟨⟨by simp[r.len],r.nd,λj zs h=>?_,λzs h=>?_,λc h=>r.own c (d0.own h),d0.uq r⟩,_aV _,λc o h hc g=>?_,λa h1 h2=>absurd h1 h2,λc hc=>(r.mt c hc).imp (λh=>⟨h,kp.l c h⟩) λh=>⟨h,kp.c c h,λ_ _ e=>kp.k c _ e (by intro _ z;cases z) (by intro _ z;cases z) (by intro _ _ z;cases z)⟩,λb h=>vn h,λb h=>.inl (d0.own h)⟩
 ·by_cases hj:l=j
  ·subst hj;rw[_P hll]at h;cases h;exact⟨a,ha,.inr (.inr (.inr (.inl ⟨kvs,n,(same hai).trans hk,z0P (λ_ _ q=>q.gen kp λ_ _ q=>q) (dn.gen kp λ_ _ q=>q) hb rfl hd (λi j k k' b h1 h2=>(r.uq a hai a hai kvs kvs i j k k' b hk hk h1 h2).2) hg hv⟩)))⟩
  ·rw[_I hj]at h;obtain⟨c,h1,h2⟩:=r.cell j zs h;have mc:=_d h1;have nc:c≠a:=by
    rintro rfl;exact hj ((_aU r.nd).mp (((_b.mp ha).2).trans ((_b.mp h1).2).symm))
   refine⟨c,h1,?_⟩;rcases h2 with⟨ws,q1,q2⟩ | ⟨kvs',q1,q2⟩ | ⟨o,kvs',zs',q1,q2⟩ | ⟨kvs',n',q1,q2⟩ | ⟨o,kvs',zs',q1,q3,q2,f⟩;·exact .inl ⟨ws,(same mc).trans q1,q2.gen kp λ_ _ q=>q⟩
   ·exact .inr (.inl ⟨kvs',(same mc).trans q1,q2⟩)
   ·exact .inr (.inr (.inl ⟨o,kvs',zs',(same mc).trans q1,q2⟩))
   ·refine .inr (.inr (.inr (.inl ⟨kvs',n',(same mc).trans q1,q2.imp (λ_ _ _ _ q=>q.gen kp λ_ _ q=>q) (λq c' ws hm z=>?_) fzs⟩)));obtain⟨j',hj'⟩:=z1L hm;rw[zg (λy=>by subst y;exact nc (r.uq c mc a hai kvs' kvs j' jb _ _ _ q1 hk hj' hjb).1)];exact z
   ·exact .inr (.inr (.inr (.inr ⟨o,kvs',zs',(same mc).trans q1,q3,q2.imp (λ_ _ _ _ q=>q.gen kp λ_ _ q=>q) (λq c' ws hm z=>(q2.fz f.1 hm z).elim) fzs,f⟩)))
 ·rcases _aC h with h | h;·exact r.flat zs h
  ·rw[h];exact jW df (r.flat xs (_d hx))
 ·rw[zg (λz=>by subst z;rw[hb]at h;exact g own _ (_v h).symm)];exact h
end
section
variable {mg:Gm}{H H':Hp}{Y:List Addr}{s:Sto}{l:Nat}{a p b:Addr}{xs ys:List D}{kvs:List (Key×V)}{k:Int}{vs:List V}{d:D}{v:V}
theorem jz:∀{xs:List D}{kvs:List (Key×V)},wM mg H Y xs kvs->kvs.length=xs.length
 | [],kvs,h=>by simp only[wM]at h;subst h;rfl | x::xs,kvs,h=>by
  obtain⟨i,zs,c,ws,r,rfl,h1,h2,h3⟩:=h;simp[jz h3]
theorem z0w(r:Rep mg H Y s)(hx:s[l]? = some xs)(ha:Y[l]? = some a)(hc:IsC H a){g:Option (List D×Bool)}(hg:yL k xs=some g):(xs=[]/\H a=some (.dT []))\/∃kvs,kvs≠[]/\H a=some (.dK kvs)/\wM mg H Y xs kvs:=by
 rcases r.dic hx ha hc with⟨kvs,q1,q2⟩ | ⟨o,kvs,ys,q1,rfl,q2⟩ | q | ⟨o,kvs,ys,q1,rfl,q2⟩;·cases xs with
  | nil=>simp only[z9a]at q2;subst q2;exact .inl ⟨rfl,q1⟩ | cons x xs=>
   simp only[z9a]at q2;obtain⟨k,v,x,r,rfl,h1,rfl,h2⟩:=q2;simp[yL]at hg
 ·simp[yL]at hg
 ·exact .inr q
 ·simp[yL]at hg
theorem vm{e:D}:∀{xs:List D},yL k xs=some none->yL k (xs++[e])=yL k [e]
 | [],_=>rfl | x::xs,h=>by
  unfold yL at h;split at h;·cases ‹_=[] ›
  ·rename_i i ys t e;cases e;split at h;·simp at h
   ·rename_i ne;rw[_X,yL,_j ne];exact vm h
  ·rename_i i ys t e;cases e;split at h;·simp at h
   ·rename_i ne;rw[_X,yL,_j ne];exact vm h
  ·simp at h
theorem ky:∀{xs:List D},yL k xs=some none->vI k d (xs++[.tup [.int k,.lst []]])=xs++[.tup [.int k,.lst [d]]]
 | [],_=>by simp[vI] | x::xs,h=>by
  unfold yL at h;split at h;·cases ‹_=[] ›
  ·rename_i i ys t e;cases e;split at h;·simp at h
   ·rename_i ne;rw[_X,vI,_j ne,ky h];rfl
  ·rename_i i ys t e;cases e;split at h;·simp at h
   ·rename_i ne;rw[_X,vI,ky h];·rfl
    ·intro i ys z;cases z
  ·simp at h
end
section
variable {X:Cx}{E:XK}{o e:Expr}{x:Str}{ap1 ap2 cp1 cp2 lp pos:Pos}
noncomputable def z6v(fo fk:FE)(j:Nat):FE:=fun ρ s=>(fo ρ s).bind λo s1=>match o with
 | .dlo l=>match s1[l]? with
  | some (.non::_)=>.no | _=>(fk ρ s1).bind λkd s2=>match kd,s2[l]?,ρ[j]? with
   | .int k,some xs,some (some d)=>match yL k xs with
    | some none=>if d.flat=true/\xs.length<cap then .ok .non (s2.set l (xs++[.tup [.int k,.lst [d]]])) else .no | some (some (ys,false))=>if d.flat=true/\ys.length<cap/\xs.length<cap then .ok .non (s2.set l (vI k d xs)) else .no | _=>.no
   | _,_,_=>.no
 | _=>.no
theorem zdI {fo fk:FE} (j:Nat) (ho:RE X E o fo) (he:RE X E e fk) (hN:X.N[j]? = some x:=by rfl) (hv:Vis X.env.scope x:=by first | exact Or.inl rfl | exact Or.inr (Or.inl rfl) | exact Or.inr (Or.inr rfl)) (hd:(x==("__debug__":Str))=false:=by decide) (hcd:(x==("__classdict__":Str))=false:=by decide) (hb1:attributeBase o "setdefault" X.env (eval o X.env)=eval o X.env:=by rfl) (hf1:((backTo cp1 (starEach [e,.List [] lp] X.env)).all (λx=>!x.1)&&(backToKw cp1 (keywordEach [] X.env)).all (λx=>x.1.isSome) && decide (([e,.List [] lp]:List Expr).length+([]:List Keyword).length+(if ([]:List Keyword).isEmpty then 0 else 1)<30))=true:=by rfl) (hl1:(ap1.endLine==cp1.line)=true:=by rfl) (hs1:starEach [e,.List [] lp] X.env=(false,eval e X.env)::starEach [.List [] lp] X.env:=by rfl) (hs0:starEach [.List [] lp] X.env=(false,eval (.List [] lp) X.env)::starEach [] X.env:=by rfl) (hp1:(backTo cp1 (starEach [.List [] lp] X.env)).any (·.1)=false:=by rfl) (hb2:attributeBase (.Call (.Attribute o "setdefault" ap1) [e,.List [] lp] [] cp1) "append" X.env (eval (.Call (.Attribute o "setdefault" ap1) [e,.List [] lp] [] cp1) X.env)=eval (.Call (.Attribute o "setdefault" ap1) [e,.List [] lp] [] cp1) X.env:=by rfl) (hf2:((backTo cp2 (starEach [.Name x pos] X.env)).all (λx=>!x.1)&&(backToKw cp2 (keywordEach [] X.env)).all (λx=>x.1.isSome) && decide (([.Name x pos]:List Expr).length+([]:List Keyword).length+(if ([]:List Keyword).isEmpty then 0 else 1)<30))=true:=by rfl) (hl2:(ap2.endLine==cp2.line)=true:=by rfl) (hs2:starEach [.Name x pos] X.env=(false,eval (.Name x pos) X.env)::starEach [] X.env:=by rfl) (hp2:(backTo cp2 (starEach [] X.env)).any (·.1)=false:=by rfl): RE X E (.Call (.Attribute (.Call (.Attribute o "setdefault" ap1) [e,.List [] lp] [] cp1) "append" ap2) [.Name x pos] [] cp2) (z6v fo fk j):= yh (zcU PySem.F.plainAttrs_list PySem.F.slot_list_append PySem.F.type_list_append z8h (zcU _bY PySem.F.slot_dict_setdefault PySem.F.type_dict_setdefault z8w ho (qj he (qj (z22 jy) jy hs0) hs1) hb1 hf1 hl1 hs1 hp1) (qj (kG hN hv hd hcd) jy hs2) hb2 hf2 hl2 hs2 hp2) λO H Q ⟨Y,ρ,s,r,en,h⟩=>by
  unfold z6v at h;refine⟨Y,ρ,s,r,en,(okR.bind (Dn:=Den (gm X)) h).imp λov H1 ⟨Y1,s1,od,stp,dn,h1⟩=>?_⟩;have en1:=en.mono stp;split at h1
  ·rename_i l;split at h1;·exact h1.elim
   ·rename_i hnf;have dl:=dn;simp only[Den]at dl;obtain⟨a,rfl,e1,ka⟩:=dl;have hls:∃xs,s1[l]? = some xs:=by
     have:l<s1.length:=by rw[<- stp.rep.len];exact (_b.mp e1).1
     exact⟨_,_n this⟩
    obtain⟨xs1,hx1⟩:=hls;have hty:tyV X.K "dict" (.ref a) H1:=by
     rcases stp.rep.dic hx1 e1 ka with⟨kvs,q1,_⟩ | ⟨o,kvs,ys,q1,rfl,q2⟩ | ⟨kvs,_,q1,_⟩ | ⟨o,kvs,ys,q1,rfl,q2⟩;·exact .inr (.inr (.inl ⟨rfl,.inr ⟨kvs,q1⟩⟩))
     ·exact absurd hx1 (hnf ys)
     ·exact .inr (.inr (.inl ⟨rfl,.inl ⟨kvs,q1⟩⟩))
     ·exact absurd hx1 (hnf ys)
    refine⟨hty,⟨Y1,ρ,s1,stp.rep,en1,(okR.bind (Dn:=Den (gm X)) h1).imp λkv H2 ⟨Y2,s2,kd,stp2,dn2,h2⟩=>?_⟩⟩;have en2:=en1.mono stp2;have r2:=stp2.rep;have dl2:=dn.mono stp2;simp only[Den]at dl2;obtain⟨a',e',e2,ka2⟩:=dl2;cases e';split at h2
    ·rename_i k xs d hx hj;have ek:kv=.int k:=yb dn2;subst ek;obtain⟨v,hv1,hv2⟩:=en2.at_ j d hj;refine⟨by simp,λp hp=>?_⟩;have pa:a≠p:=λz=>r2.notin hp (z ▸ _d e2);have stpP:yw (gm X) H2 Y2 (upd H2 p (.lst [])) Y2 s2:=yw.layP r2 hp;split at h2
     ·rename_i hg;split at h2
      ·rename_i hc;have key:∃kvs,z6Q H2 a kvs/\kvs.length=xs.length/\qk kvs (.inl k)=none/\((kvs=[]/\xs=[]/\H2 a=some (.dT []))\/(kvs≠[]/\H2 a=some (.dK kvs)/\wM (gm X) H2 Y2 xs kvs)):=by
        rcases z0w r2 hx e2 ka2 hg with⟨rfl,q⟩ | ⟨kvs,n,q1,q2⟩;·exact⟨[],.inr ⟨rfl,q⟩,rfl,rfl,.inl ⟨rfl,rfl,q⟩⟩
        ·exact⟨kvs,.inl q1,jz q2,jA q2 hg,.inr ⟨n,q1,q2⟩⟩
       obtain⟨kvs,hD,hlen,hnone,hcell⟩:=key;have hD':z6Q (upd H2 p (.lst [])) a kvs:=hD.imp (λq=>by rw[zg pa];exact q) λ⟨z,q⟩=>⟨z,by rw[zg pa];exact q⟩;refine⟨a,kvs,.inl k,.ref p,rfl,rfl,hD',by rw[hlen];exact z23 hc.2,(λv hv=>by rw[hnone]at hv;cases hv),λ_=>?_⟩;rw[z2v _ hnone];have tc:=yw.touch (k:=k) r2 e2 hx hp hcell;have atp:upd (upd H2 p (.lst [])) a (.dK (kvs++[(.inl k,.ref p)])) p=some (.lst []):=by rw[zg (λz=>pa z.symm),zu]
       have ata:upd (upd H2 p (.lst [])) a (.dK (kvs++[(.inl k,.ref p)])) a=some (.dK (kvs++[(.inl k,.ref p)])):=zu;generalize upd (upd H2 p (.lst [])) a (.dK (kvs++[(.inl k,.ref p)]))=H4 at tc atp ata;refine⟨.inl ⟨rfl,[],.inl (.inl atp)⟩,v,hv1,p,[],v,rfl,rfl,atp,by decide,?_⟩;have hll:l<s2.length:=(_b.mp hx).1;have hx4:(s2.set l (xs++[.tup [.int k,.lst []]]))[l]? = some (xs++[.tup [.int k,.lst []]]):=_P hll;have dk4:wM (gm X) H4 Y2 (xs++[.tup [.int k,.lst []]]) (kvs++[(.inl k,.ref p)]):=by
        rcases tc.rep.dic hx4 e2 (.inr (.inr (.inl ⟨_,by simp,ata⟩))) with⟨_,z,_⟩ | ⟨_,_,_,z,_⟩ | ⟨kvs',_,z,q⟩ | ⟨_,_,_,z,_⟩;·rw[ata]at z;cases z
        ·rw[ata]at z;cases z
        ·rw[ata]at z;cases z;exact q
        ·rw[ata]at z;cases z
       have hv4:qk (kvs++[(.inl k,.ref p)]) (.inl k)=some (.ref p):=by rw[z46 _ _ _ _ hnone,_g rfl]
       have ps:=yw.push (k:=k) (d:=d) (v:=v) (ys:=[]) tc.rep e2 hx4 (by simp) ata dk4 (by rw[vm hg];simp[yL]) hv4 atp (hv2.mono tc) hc.1;rw[ky hg,List.set_set]at ps;exact h2 .non _ _ (tc.trans ps) (by simp[Den])
      ·exact h2.elim
     ·rename_i ys hg;split at h2
      ·rename_i hc;rcases z0w r2 hx e2 ka2 hg with⟨rfl,q⟩ | ⟨kvs,n,q1,q2⟩;·simp[yL]at hg
       ·obtain⟨b,ws,g1,g2,g3,_⟩:=vW q2 hg;have hb:=g3 rfl;have pb:b≠p:=λz=>by rw[z,hp]at hb;cases hb
        refine⟨a,kvs,.inl k,.ref p,rfl,rfl,.inl (by rw[zg pa];exact q1),by rw[jz q2];exact z23 hc.2.2,λu hu=>?_,λz=>by rw[g1]at z;cases z⟩;rw[g1]at hu;cases hu;have hb3:upd H2 p (.lst []) b=some (.lst ws):=by rw[zg pb];exact hb
        have ha3:upd H2 p (.lst []) a=some (.dK kvs):=by rw[zg pa];exact q1
        refine⟨.inl ⟨rfl,ws,.inl (.inl hb3)⟩,v,hv1,b,ws,v,rfl,rfl,hb3,by rw[g2.length];exact z23 hc.2.1,?_⟩;have dk3:wM (gm X) (upd H2 p (.lst [])) Y2 xs kvs:=by
         rcases stpP.rep.dic hx e2 (.inr (.inr (.inl ⟨_,n,ha3⟩))) with⟨_,z,_⟩ | ⟨_,_,_,z,_⟩ | ⟨kvs',_,z,q⟩ | ⟨_,_,_,z,_⟩;·rw[ha3]at z;cases z
         ·rw[ha3]at z;cases z
         ·rw[ha3]at z;cases z;exact q
         ·rw[ha3]at z;cases z
        have ps:=yw.push (k:=k) (d:=d) (v:=v) stpP.rep e2 hx n ha3 dk3 hg g1 hb3 (hv2.mono stpP) hc.1;exact h2 .non _ _ (stpP.trans ps) (by simp[Den])
      ·exact h2.elim
     ·exact h2.elim
    ·exact h2.elim
  ·exact h1.elim
end
end Dd
namespace L2
def zgI(Q:VK):VK:=λv H=>z5D Q v H\/Q v H
theorem PE.freezeOr{X:Cx}{e:Expr}{t:TE}(h:PE X e t):PE X e (λO H Q=>t O H (zgI Q)):=λpins s O H Q I q=>thn (h pins s O H _ I q) λ_ _ ⟨v,H',I',r,z⟩=>z.elim (λz=>EP.freeze ⟨v,H',I',r,z⟩) λz=>⟨v,H',I',r,z⟩
end L2
namespace Dd
open L2
section
variable {mg:Gm}{H H':Hp}{Y:List Addr}{s:Sto}{l:Nat}{a p b:Addr}{xs ys:List D}{kvs:List (Key×V)}{k:Int}{vs:List V}{d:D}{v:V}
theorem z2n{o:Obj}(g:∀ys ws,D.flat.flats ys=true->zq mg H Y ys ws->zq mg H' Y ys ws)(hb:H b=some (.lst vs))(e:H'=upd H b (.frz o (.lst vs))):∀{xs:List D}{kvs:List (Key×V)},D.flat.flats xs=true->wM mg H Y xs kvs->UqK kvs->yL k xs=some (some (ys,false))->qk kvs (.inl k)=some (.ref b)->wM mg H' Y (frzK k xs) kvs
 | [],kvs,_,h,_,q,_=>by simp[yL]at q | x::xs,kvs,f,h,u,q,w=>by
  obtain⟨i,zs,c,ws,r,rfl,h1,h2,h3⟩:=h;simp only[D.flat.flats,_p]at f;have fzs:∀b' o ws,H b'=some (.frz o (.lst ws))->H' b'=some (.frz o (.lst ws)):=λb' o ws z=>by rw[e,zg (λy=>by subst y;rw[hb]at z;cases z)];exact z
  rcases h2 with⟨rfl,hc⟩ | ⟨rfl,o',hc⟩
  ·have fz:D.flat.flats zs=true:=by simpa[D.flat,D.flat.flats] using f.1
   simp only[yL]at q;simp only[frzK];split at q
   ·rename_i ei;subst ei;rw[_g rfl];rw[wf rfl]at w;cases w;rw[hb]at hc;cases hc;refine⟨i,zs,b,vs,r,rfl,g _ _ fz h1,.inr ⟨rfl,o,by rw[e,zu]⟩,h3.imp (λys' _ _ hm z=>g _ _ ?_ z) (λk' b' ws' hm z=>?_) fzs⟩
    ·rcases hm with hm | hm;all_goals
      have:=wG f.2 hm;simpa[D.flat,D.flat.flats] using this
    ·obtain⟨j,hj⟩:=z1L hm;rw[e,zg (λy=>by
      subst y;have:=u 0 (j+1) (Sum.inl i) _ _ rfl (by simpa using hj);omega)];exact z
   ·rename_i ne;rw[_j ne];rw[yI (kX ne)]at w;refine⟨i,zs,c,ws,r,rfl,g _ _ fz h1,.inl ⟨rfl,?_⟩,z2n g hb e f.2 h3 u.tail q w⟩;obtain⟨j,hj⟩:=z1f w;rw[e,zg (λy=>by
     subst y;have:=u 0 (j+1) (Sum.inl i) _ _ rfl (by simpa using hj);omega)];exact hc
  ·have fz:D.flat.flats zs=true:=by simpa[D.flat,D.flat.flats] using f.1
   simp only[yL]at q;simp only[frzK];split at q;·simp at q
   ·rename_i ne;rw[yI (kX ne)]at w;exact⟨i,zs,c,ws,r,rfl,g _ _ fz h1,.inr ⟨rfl,o',fzs _ _ _ hc⟩,z2n g hb e f.2 h3 u.tail q w⟩
theorem z1c:∀{xs:List D},D.flat.flats xs=true->D.flat.flats (frzK k xs)=true
 | [],h=>by simpa[frzK] using h | x::xs,h=>by
  simp only[D.flat.flats,_p]at h;unfold frzK;split
  ·rename_i i ys t e;cases e;split
   ·simp only[D.flat.flats,D.flat,_bA,_aG,_p]at h ⊢;exact h
   ·simp only[D.flat.flats,_p];exact⟨h.1,z1c h.2⟩
  ·rename_i e;cases e;simp only[D.flat.flats,_p];exact⟨h.1,z1c h.2⟩
  ·rename_i e;cases e
theorem yw.frzOwn(o:Obj)(r:Rep mg H Y s)(ha:Y[l]? = some a)(hx:s[l]? = some xs)(n:kvs≠[])(hk:H a=some (.dK kvs))(hd:wM mg H Y xs kvs)(hg:yL k xs=some (some (ys,false)))(hv:qk kvs (.inl k)=some (.ref b))(hb:H b=some (.lst vs)): yw mg H Y (upd H b (.frz o (.lst vs))) Y (s.set l (frzK k xs)):=by
 have hai:a∈Y:=_d ha;have hll:l<s.length:=by rw[<- r.len];exact (_b.mp ha).1
 obtain⟨jb,hjb⟩:=z1f hv;have own:Own H Y b:=⟨a,hai,kvs,_,hk,_d hjb⟩;have bn:b∉Y:=r.own b own;have kk:∀c u,H c=some u->(∀vs,u≠.lst vs)->(∀kvs,u≠.dT kvs)->(∀kvs,kvs≠[]->u≠.dK kvs)->upd H b (.frz o (.lst vs)) c=some u:=λc u h hn _ _=>by rw[zg (λz=>by subst z;rw[hb]at h;exact hn vs (_v h).symm)];exact h
 have g:∀ys ws,D.flat.flats ys=true->zq mg H Y ys ws->zq mg (upd H b (.frz o (.lst vs))) Y ys ws:=λys ws f q=>q.flatten kk f;have same:∀{c},c∈Y->upd H b (.frz o (.lst vs)) c=H c:=λ{c} m=>zg (λz=>bn (z ▸ m));have d0:DkS H Y (upd H b (.frz o (.lst vs))) Y:=λc m kvs e=>⟨m,by rw[same m]at e;exact e⟩;have fzs:∀c o' ws,H c=some (.frz o' (.lst ws))->upd H b (.frz o (.lst vs)) c=some (.frz o' (.lst ws)):=λc o' ws q=>kk c _ q (by intro _ z;cases z) (by intro _ z;cases z) (by intro _ _ z;cases z);refine⟨⟨by simp[r.len],r.nd,λj zs h=>?_,λzs h=>?_,λc h=>r.own c (d0.own h),d0.uq r⟩,_aV _,λc o' h hc q=>?_,λa h1 h2=>absurd h1 h2,λc hc=>(r.mt c hc).imp (λh=>⟨h,by rw[IsL,same hc];exact h⟩) λh=>⟨h,by rw[IsC,same hc];exact h,λ_ _ e=>by rw[same hc];exact e⟩,λb h=>vn h,λb h=>.inl (d0.own h)⟩
 ·by_cases hj:l=j
  ·subst hj;rw[_P hll]at h;cases h;exact⟨a,ha,.inr (.inr (.inr (.inl ⟨kvs,n,(same hai).trans hk,z2n g hb rfl (r.flat xs (_d hx)) hd (λi j k k' b h1 h2=>(r.uq a hai a hai kvs kvs i j k k' b hk hk h1 h2).2) hg hv⟩)))⟩
  ·rw [_I hj]at h;obtain⟨c,h1,h2⟩:=r.cell j zs h;have mc:=_d h1;have fz:=r.flat zs (_d h);have nc:c≠a:=by
    rintro rfl;exact hj ((_aU r.nd).mp (((_b.mp ha).2).trans ((_b.mp h1).2).symm))
   refine⟨c,h1,?_⟩;rcases h2 with⟨ws,q1,q2⟩ | ⟨kvs',q1,q2⟩ | ⟨o',kvs',zs',q1,q2⟩ | ⟨kvs',n',q1,q2⟩ | ⟨o',kvs',zs',q1,q3,q2,f⟩;·exact .inl ⟨ws,(same mc).trans q1,g _ _ fz q2⟩
   ·exact .inr (.inl ⟨kvs',(same mc).trans q1,q2⟩)
   ·exact .inr (.inr (.inl ⟨o',kvs',zs',(same mc).trans q1,q2⟩))
   ·refine .inr (.inr (.inr (.inl ⟨kvs',n',(same mc).trans q1,q2.imp (λys' _ _ hm q=>g _ _ ?_ q) (λq c' ws hm z=>?_) fzs⟩)))
    ·rcases hm with hm | hm;all_goals
      have:=wG fz hm;simpa[D.flat,D.flat.flats] using this
    ·obtain⟨j',hj'⟩:=z1L hm;rw[zg (λy=>by subst y;exact nc (r.uq c mc a hai kvs' kvs j' jb _ _ _ q1 hk hj' hjb).1)];exact z
   ·subst q3;have fz':D.flat.flats zs'=true:=by simpa[D.flat.flats,D.flat] using fz
    refine .inr (.inr (.inr (.inr ⟨o',kvs',zs',(same mc).trans q1,rfl,q2.imp (λys' _ _ hm q=>g _ _ ?_ q) (λq c' ws hm z=>(q2.fz f.1 hm z).elim) fzs,f⟩)));rcases hm with hm | hm;all_goals
     have:=wG fz' hm;simpa[D.flat,D.flat.flats] using this
 ·rcases _aC h with h | h;·exact r.flat zs h
  ·rw[h];exact z1c (r.flat xs (_d hx))
 ·rw[zg (λz=>by subst z;rw[hb]at h;exact q own _ (_v h).symm)];exact h
end
section
variable {X:Cx}{E:XK}{o e:Expr}{apos pos lp:Pos}
noncomputable def z1F(fo fk:FE):FE:=fun ρ s=>(fo ρ s).bind λo s1=>match o with
 | .dlo l=>(fk ρ s1).bind λkd s2=>match kd,s2[l]? with
  | .int k,some (x::xs)=>match yL k (x::xs) with
   | some none=>.ok (.lst []) s2 | some (some (ys,true))=>.ok (.lst ys) s2 | some (some (ys,false))=>.ok (.lst ys) (s2.set l (frzK k (x::xs))) | none=>.no
  | _,_=>.no
 | _=>.no
theorem zc5{fo fk:FE}(hu:X.A.units+64<cLine)(ho:RE X E o fo)(he:RE X E e fk)(hbase:attributeBase o "get" X.env (eval o X.env)=eval o X.env:=by rfl) (hfew:((backTo pos (starEach [e,.List [] lp] X.env)).all (λx=>!x.1)&&(backToKw pos (keywordEach [] X.env)).all (λx=>x.1.isSome) && decide (([e,.List [] lp]:List Expr).length+([]:List Keyword).length+(if ([]:List Keyword).isEmpty then 0 else 1)<30))=true:=by rfl) (hline:(apos.endLine==pos.line)=true:=by rfl)(htr:backTo pos (starEach [e,.List [] lp] X.env)=[(false,eval e X.env),(false,eval (.List [] lp) X.env)]:=by rfl): RE X E (.Call (.Attribute o "get" apos) [e,.List [] lp] [] pos) (z1F fo fk):= yh (PE.freezeOr (z9y (by omega) ho he (z22 jy) ⟨hbase,hfew,hline,htr⟩)) λO H Q ⟨Y,ρ,s,r,en,h⟩=>by
  unfold z1F at h;refine⟨Y,ρ,s,r,en,(okR.bind (Dn:=Den (gm X)) h).imp λov H1 ⟨Y1,s1,od,stp,dn,h1⟩=>?_⟩;have en1:=en.mono stp;split at h1
  ·rename_i l;have dl:=dn;simp only[Den]at dl;obtain⟨a,rfl,e1,ka⟩:=dl;refine⟨a,rfl,zeM ka,⟨Y1,ρ,s1,stp.rep,en1,(okR.bind (Dn:=Den (gm X)) h1).imp λkv H2 ⟨Y2,s2,kd,stp2,dn2,h2⟩=>?_⟩⟩;have r2:=stp2.rep;have dl2:=dn.mono stp2;simp only[Den]at dl2;obtain⟨a',e',e2,ka2⟩:=dl2;cases e';split at h2
   ·rename_i k x xs hx;have ek:kv=.int k:=yb dn2;subst ek;refine⟨by simp,λp hp=>?_⟩;have pa:a≠p:=λz=>r2.notin hp (z ▸ _d e2);have stpP:yw (gm X) H2 Y2 (upd H2 p (.lst [])) Y2 s2:=yw.layP r2 hp;have cell:∀{g},yL k (x::xs)=some g->∃kvs,kvs≠[]/\H2 a=some (.dK kvs)/\wM (gm X) H2 Y2 (x::xs) kvs:=λ{g} hg=>by
     rcases z0w r2 hx e2 ka2 hg with⟨z,_⟩ | q;·cases z
     ·exact q
    split at h2
    ·rename_i hg;obtain⟨kvs,n,q1,q2⟩:=cell hg;refine⟨none,.inl ⟨kvs,.inl k,.inl (by rw[zg pa];exact q1),rfl,(jA q2 hg).symm⟩,.inl ⟨p,[],rfl,zu,λo=>?_⟩⟩;rw[z4M];exact h2 _ _ _ (yw.layP r2 hp) (by simp only[Den];exact⟨p,o,[],rfl,zu,zq.nil⟩)
    ·rename_i ys hg;obtain⟨kvs,n,q1,q2⟩:=cell hg;obtain⟨b,ws,g1,g2,_,g4⟩:=vW q2 hg;obtain⟨o,hb⟩:=g4 rfl;have pb:b≠p:=λz=>by rw[z,hp]at hb;cases hb
     refine⟨some (.ref b),.inl ⟨kvs,.inl k,.inl (by rw[zg pa];exact q1),rfl,g1.symm⟩,.inr ?_⟩;exact h2 _ _ _ stpP (by simp only[Den];exact⟨b,o,ws,rfl,by rw[zg pb];exact hb,g2.mono stpP⟩)
    ·rename_i ys hg;obtain⟨kvs,n,q1,q2⟩:=cell hg;obtain⟨b,ws,g1,g2,g3,_⟩:=vW q2 hg;have hb:=g3 rfl;have pb:b≠p:=λz=>by rw[z,hp]at hb;cases hb
     have hb3:upd H2 p (.lst []) b=some (.lst ws):=by rw[zg pb];exact hb
     have ha3:upd H2 p (.lst []) a=some (.dK kvs):=by rw[zg pa];exact q1
     have dk3:wM (gm X) (upd H2 p (.lst [])) Y2 (x::xs) kvs:=by
      rcases stpP.rep.dic hx e2 (.inr (.inr (.inl ⟨_,n,ha3⟩))) with⟨_,z,_⟩ | ⟨_,_,_,z,_⟩ | ⟨kvs',_,z,q⟩ | ⟨_,_,_,z,_⟩;·rw[ha3]at z;cases z
      ·rw[ha3]at z;cases z
      ·rw[ha3]at z;cases z;exact q
      ·rw[ha3]at z;cases z
     refine⟨some (.ref b),.inl ⟨kvs,.inl k,.inl ha3,rfl,g1.symm⟩,.inl ⟨b,ws,rfl,hb3,λo=>?_⟩⟩;have st3:=yw.frzOwn (k:=k) o stpP.rep e2 hx n ha3 dk3 hg g1 hb3;refine h2 _ _ _ (stpP.trans st3) ?_;simp only[Den];exact⟨b,o,ws,rfl,zu,(g2.mono stpP).mono st3⟩
    ·exact h2.elim
   ·exact h2.elim
  ·exact h1.elim
end
end Dd
namespace L2
theorem z2z:fillsInplaceSlot (.type "list") "add" (Operator.Add==.Add)=pure false:=by
 unfold fillsInplaceSlot;show (typeLookup (.type "list") (dunderI "add") >>= λfi=>pure (fi.isSome&&!isSeqSlot fi))=pure false;rw[_ca.lookup];have h:isSeqSlot (some (.builtin "list.__iadd__"))=true:=by decide +kernel
 simp only[pure_bind,h,_cZ,_bn,Bool.and_false]
theorem z1q:seqSlot? (.type "list") (dunderI "add")=pure (some (.builtin "list.__iadd__")):=PySem.seqSlot_of _ca.lookup (by decide +kernel)
def zfa:TIp:=λx y H Q=>∃l b xs zs,x=.ref l/\y=.ref b/\H l=some (.lst xs)/\Rd H b (.lst zs)/\xs.length+zs.length<=sizeLine/\Q (.ref l) (upd H l (.lst (xs++zs)))
theorem z9W{X:Cx}:PIp X .Add zfa:=by
 intro pins s O H x y v u Q I rx ry h;obtain⟨l,b,xs,zs,rfl,rfl,hH,hB,hz,q⟩:=h;cases rx;cases ry;obtain⟨z,its,n,r,hl,e⟩:=I.lstM hH;obtain⟨z2,its2,n2,r2,e2⟩:=hB.ok I.hok;have l1:=r.length;have l2:=r2.length;have ta:s.TypeIs (.ref l) "list":=⟨_,e,rfl⟩;have tb:s.TypeIs (.ref b) "list":=⟨_,e2,rfl⟩;unfold inplaceOp;refine _ay ?_;refine _a (_cQ ta (_a (_cs z2z ?_)));show wpAny _ _ (if false=true then _ else _) _ _ s;rw[_j _bb];refine _a (wpAny_binaryOp1_none (nm:="add") ta tb noFill_list_add ?_);refine _a (_cs z1q ?_);refine _a (_at ?_);refine _ck _ca ta PySem.F.entry_list_iadd (PySem.F.args_list_iadd_2 _ _) (AutoSeq1.list___iadd___list_list_0 l its.toArray n b its2.toArray n2 ?_ (by rw[_k];omega) (by rw[_k,_k];omega)) ⟨e,e2,?_⟩
 ·intro q';simp only[_p]at q';have:=q'.2;simp only[Builtin.List.listTooLong,_k,_m]at this;omega
 ·refine⟨.ref l,_,I.lset (its':=its++its2) hH e (by simp) (r.append r2) ?_,rfl,q⟩;rw[_H];omega
end L2
namespace Dd
open L2
section
variable {X:Cx}{E:XK}{e:Expr}{pos pos':Pos}
noncomputable def z8g(i:Nat)(f:FE):FS:=fun ρ s=>match ρ[i]? with
 | some (some (.loc l))=>(f ρ s).bind λd s1=>match d with
  | .lst ys=>match s1[l]? with
   | some xs=>if D.flat.flats ys=true/\xs.length+ys.length<=cap then .ok (.nx (ρ.set i (some (.loc l)))) (s1.set l (xs++ys)) else .no | none=>.no
  | _=>.no
 | _=>.no
theorem zef (i:Nat) {x:Str} {f:FE} (hN:X.N.Nodup) (he:RE X E e f) (hi:X.N[i]? = some x:=by rfl) (hx:Loc X.env.scope x:=by first | exact Or.inl rfl | exact Or.inr rfl) (hf:X.fn x=true\/X.env.scope.names.lookup x=some .local:=by first | exact .inl rfl | exact .inr rfl | assumption): RS X E (.AugAssign (.Name x pos') .Add e pos) (z8g i f):= vy (zfo hN hi hx he z9W hf) λDn O H ⟨Y,ρ,s,r,en,h⟩=>by
  unfold z8g at h;split at h
  ·rename_i l ea;obtain⟨v,h1,h2⟩:=en.at_ i _ ea;refine⟨_,h1,?_⟩;refine yd (k:=fun ρ d s1=>match d with
    | .lst ys=>match s1[l]? with
     | some xs=>if D.flat.flats ys=true/\xs.length+ys.length<=cap then R.ok (Fl.nx (ρ.set i (some (.loc l)))) (s1.set l (xs++ys)) else .no | none=>.no
    | _=>.no) r en h _ λv2 H1 Y1 s1 d r1 en1 dn stp h3=>?_;have dl:=h2.mono stp;split at h3
   ·rename_i ys;split at h3
    ·rename_i xs ex;split at h3
     ·rename_i hc;have dl':=dl;simp only[Den]at dl' dn;obtain⟨a,rfl,e1,ka⟩:=dl';obtain⟨b,o',ws,rfl,eb,dw⟩:=dn;obtain⟨vs,q1,q2⟩:=r1.at_ ex e1 ka;have stp3:=yw.put (l:=l) (xs:=xs++ys) r1 e1 ka (q2.append dw) (xp (r1.flat xs (_d ex)) hc.1);refine⟨a,b,vs,ws,rfl,rfl,q1,.inr ⟨o',eb⟩,by rw[q2.length,dw.length];exact uJ hc.2,?_⟩;exact h3 (FlV.nx (O.set i (some (.ref a)))) _ _ stp3 ((en1.mono stp3).set (dl.mono stp3) i)
     ·exact h3.elim
    ·exact h3.elim
   ·exact h3.elim
  ·exact h.elim
end
section
variable {X:Cx}{E:XK}
noncomputable def z9q:D->D->Sto->R D
 | .tup xs,.tup ys,s=>match intsOf xs,intsOf ys with
  | some ns,some ms=>.ok (.bl (HT.lexLt ns ms)) s | _,_=>.no
 | _,_,_=>.no
theorem zcy(hu:X.A.units<cLine):∃r,OpR X (compareOp .Lt) r/\OpF X E r z9q:=⟨_,zeH hu,λH Y s d1 d2 v1 v2 Q r h1 h2 h=>by
 unfold z9q at h;split at h
 ·rename_i xs ys;split at h
  ·rename_i ns ms e1 e2;simp only[Den]at h1 h2;obtain⟨a,vs,rfl,q1,p1⟩:=h1;obtain⟨b,ws,rfl,q2,p2⟩:=h2;rw[vS e1]at p1;rw[vS e2]at p2;rw[vT p1]at q1;rw[vT p2]at q2;exact⟨a,b,ns,ms,rfl,rfl,.inl (.inl q1),.inl (.inl q2),h.here r xQ⟩
  ·exact h.elim
 ·exact h.elim⟩
end
section
variable {prog:Program}{w:World}{A:Around}{E:Value->Shared->Prop}{s:Shared}
theorem z6m{id:String}{b:Builtin}{args:List Value}{kw:List (Str×Value)}{Q:Value->Shared->Prop}(hk:builtinKind id=none)(hp:plainId id=true) (hb:entryFor table id=some b)(ha:argsOk id ⟨args,kw⟩) (hc:wpAny (model prog w) A.in1 (b ⟨args,kw⟩) (λfin s'=>match fin with
   | .done f=>(match (Except.ok f:Result) with | .ok (.ret v)=>Q v s' | .ok _=>False | .error e=>E e s') | .again c'=>c'.quiet=true/\codeAny (model prog w) A c' (λr s'=>match r with | .ok (.ret v)=>Q v s' | .ok _=>False | .error e=>E e s') s') E s): wpAny (model prog w) A (call (.builtin id) args kw) Q E s:=by
 refine wpAny_call (codeAny_call_builtin hp hb ?_);simp only[checkBuiltinCall,hk];cases hsig:Manifest.signature? id with
 | none=>exact _c hc | some sig=>
  simp only[argsOk,hsig]at ha;have h2:Bind.checkArgs id sig ⟨args,kw⟩=pure ():=ha;show wpAny _ A.in1 (Bind.checkArgs id sig ⟨args,kw⟩) _ _ s;rw[h2];exact _c hc
theorem z8F(a v:Value):argsOk "min" ⟨[a],[("default",v)]⟩:=by unfold argsOk;kernel_rfl
theorem z8q(v:Value):Builtin.Builtins.bindParams "min" ["key","default"] 0 ⟨[],[("default",v)]⟩=pure [none,some v]:=by kernel_rfl
end
section
variable {X:Cx}{E:XK}{a:Expr}{pos:Pos}{ta:TE}
theorem z8i(ha:PE X a ta):PE X (.UnaryOp .Not a pos) (λO H Q=>ta O H λx H'=>∃k,zh6 X.K x H' k/\Q (.bl (!k)) H'):=by
 intro pins s O H Q I h;refine UnaryOp_ (thn (ha pins s O H _ I h) λv s1 ⟨x,H1,I1,r1,k,q1,q2⟩=>?_);exact not_of (thn (zea pins s1 O H1 x v (λc H'=>Q (.bl (!c)) H') I1 r1 ⟨k,q1,q2⟩) λc s2 ⟨H2,I2,q⟩=>⟨.bl (!c),H2,I2,rfl,q⟩)
noncomputable def zc0(f:FE):FE:=fun ρ s=>(f ρ s).bind λd s1=>match listOf s1 d with
 | some xs=>.ok (.bl xs.isEmpty) s1 | none=>.no
theorem zeN{f:FE}(h:RE X E a f):RE X E (.UnaryOp .Not a pos) (zc0 f):= yh (z8i h) λO H Q ⟨Y,ρ,s,r,en,h⟩=>by
  refine yd (k:=fun ρ d s1=>match listOf s1 d with | some xs=>R.ok (D.bl xs.isEmpty) s1 | none=>.no) r en h _ λv H1 Y1 s1 d r1 en1 dn stp h1=>?_;split at h1
  ·rename_i xs e;obtain⟨p,vs,rfl,q1,q2⟩:=zQ r1 e dn;refine⟨!xs.isEmpty,.inl ⟨vs,.inl q1,by rw[z6g q2]⟩,?_⟩;rw[Bool.not_not];exact h1.here r1 xQ
  ·exact h1.elim
end
end Dd
namespace Dt
noncomputable def z0X:Bool->Keyed->Array Keyed->Nat->Nat->Nat->StateT SortSt Sem (Option Nat):=sortPriv% PySem.Builtin.gallop
noncomputable def zaj:Array Keyed->Array Keyed->StateT SortSt Sem (Array Keyed):=sortPriv% PySem.Builtin.mergeLo
noncomputable def zal:Array Keyed->Array Keyed->StateT SortSt Sem (Array Keyed):=sortPriv% PySem.Builtin.mergeHi
noncomputable def z8S(left:Bool)(key:Keyed)(arr:Array Keyed)(base i:Nat):StateT SortSt Sem (Option Bool):=do
 let x <- elem' arr (base+i) if left then lt' x key else return (<- lt' key x).map (!·)
noncomputable def at_(arr:Array Keyed)(i:Nat):Keyed:=arr.getD i (Value.none,Value.none)
theorem z4N{arr:Array Keyed}{i:Nat}(h:i<arr.size):arr[i]? = some (at_ arr i):=by simp[at_,h]
structure Env(prog:Program)(w:World)(A:Around)(s:Shared)(κ:SortKind)(P:Keyed->Prop)(rk:Keyed->Nat):Prop where cmp:∀x y,P x->P y->∀(C:Bool->Shared->Prop)(E:Value->Shared->Prop),C (decide (rk x<rk y)) s->wpAny (model prog w) A (keyLt' κ x.1 y.1) C E s
section
variable {prog:Program}{w:World}{A:Around}{E:Value->Shared->Prop}{s:Shared}{κ:SortKind}{P:Keyed->Prop}{rk:Keyed->Nat}(V:Env prog w A s κ P rk) {arr a b:Array Keyed}{st:SortSt}
theorem yc{i:Nat}{Q:Keyed->SortSt->Prop}(h:i<arr.size)(q:Q (at_ arr i) st):wpS (model prog w) A E s (elem' arr i) Q st:=by
 rw[elem'_eq,z4N h];exact _q q
include V
theorem z8I{x y:Keyed}{Q:Option Bool->SortSt->Prop}(hk:kindOf st=κ)(hx:P x)(hy:P y)(h:Q (some (decide (rk x<rk y))) st):wpS (model prog w) A E s (lt' x y) Q st:=by
 rw[lt'_eq];refine _i (_cb ?_);rw[hk];refine _i (_c3 (_cq (V.cmp x y hx hy _ _ ⟨rfl,?_⟩)));exact _q h
noncomputable def bey(rk:Keyed->Nat)(left:Bool)(key x:Keyed):Bool:=if left then decide (rk x<rk key) else !decide (rk key<rk x)
theorem uV{left:Bool}{key:Keyed}{base i:Nat}{Q:Option Bool->SortSt->Prop}(hk:kindOf st=κ)(hP:∀i,i<arr.size->P (at_ arr i))(hx:P key)(hi:base+i<arr.size)(h:Q (some (bey rk left key (at_ arr (base+i)))) st):wpS (model prog w) A E s (z8S left key arr base i) Q st:=by
 unfold z8S;refine _i (yc hi ?_);cases left
 ·simp only[_B,_ab];refine _i (z8I V hk hx (hP _ hi) ?_);exact _q h
 ·exact z8I V hk (hP _ hi) hx h
theorem ua{left:Bool}{key:Keyed}{base n hint:Nat}{Q:Option Nat->SortSt->Prop}(hk:kindOf st=κ)(hP:∀i,i<arr.size->P (at_ arr i))(hx:P key)(hb:base+n<=arr.size)(hh:hint<n) (mono:∀i j,i<=j->j<n->bey rk left key (at_ arr (base+j))=true->bey rk left key (at_ arr (base+i))=true) (h:∀k,k<=n->(∀i,i<k->bey rk left key (at_ arr (base+i))=true)->(∀i,k<=i->i<n->bey rk left key (at_ arr (base+i))=false)->Q (some k) st):wpS (model prog w) A E s (z0X left key arr base n hint) Q st:=by
 have anti:∀i j,i<=j->j<n->bey rk left key (at_ arr (base+i))=false->bey rk left key (at_ arr (base+j))=false:=λi j h1 h2 h3=>by
  cases e:bey rk left key (at_ arr (base+j));·rfl
  ·rw[mono i j h1 h2 e]at h3;cases h3
 refine _i (uV V hk hP hx (i:=hint) (by omega) ?_);dsimp only;cases e:bey rk left key (at_ arr (base+hint))
 ·simp only[_B,_ab];refine _i (_bE (_aJ (I:=λx c st'=>st'=st/\∃l o,c=(none,l,o)/\x+1<=o/\l<o/\l<=hint/\bey rk left key (at_ arr (base+(hint-l)))=false) (Q:=λc st'=>st'=st/\∃l o,c=(none,l,o)/\hint+1-min o (hint+1)<=hint-l/\hint-l<=n/\(∀i,i<hint+1-min o (hint+1)->bey rk left key (at_ arr (base+i))=true)/\(∀i,hint-l<=i->i<n->bey rk left key (at_ arr (base+i))=false)) ?_ ?_ ⟨rfl,0,1,rfl,by omega,by omega,by omega,e⟩) ?_)
  ·rintro x c st' _ hx' ⟨rfl,l,o,rfl,h1,h2,h3,h4⟩;dsimp only;by_cases q:o ≥ hint+1
   ·rw[_g q];exact _q ⟨rfl,l,o,rfl,by omega,by omega,λi hi=>by omega,λi hi hn=>anti _ _ hi hn h4⟩
   ·rw[_j q];refine _i (uV V hk hP hx (i:=hint-o) (by omega) ?_);dsimp only;cases e2:bey rk left key (at_ arr (base+(hint-o)))
    ·simp only[_B,_ab];exact _q ⟨rfl,o,2*o+1,rfl,by omega,by omega,by omega,e2⟩
    ·simp only[_N];exact _q ⟨rfl,l,o,rfl,by omega,by omega,λi hi=>mono i (hint-o) (by omega) (by omega) e2,λi hi hn=>anti _ _ hi hn h4⟩
  ·rintro c st' ⟨rfl,l,o,rfl,h1,h2,h3,h4⟩;exact⟨rfl,l,o,rfl,by omega,by omega,λi hi=>by omega,λi hi hn=>anti _ _ hi hn h4⟩
  ·rintro c st' ⟨rfl,l,o,rfl,f1,f2,f3,f4⟩;dsimp only;generalize hint+1-min o (hint+1)=lo at f1 f3;generalize hint-l=hi at f1 f2 f4;refine _i (_bE (_aJ (I:=λx c st2=>st2=st'/\∃lo hi,c=(none,lo,hi)/\hi-lo<=n-x/\lo<=hi/\hi<=n/\(∀i,i<lo->bey rk left key (at_ arr (base+i))=true)/\(∀i,hi<=i->i<n->bey rk left key (at_ arr (base+i))=false)) (Q:=λc st2=>st2=st'/\∃k,c=(none,k,k)/\k<=n/\(∀i,i<k->bey rk left key (at_ arr (base+i))=true)/\(∀i,k<=i->i<n->bey rk left key (at_ arr (base+i))=false)) ?_ ?_ ⟨rfl,lo,hi,rfl,by omega,f1,f2,f3,f4⟩) ?_)
   ·rintro x c st2 _ hx' ⟨rfl,lo,hi,rfl,h0,h1,h2,h3,h4⟩;dsimp only;by_cases q:lo ≥ hi
    ·rw[_g q];have:lo=hi:=by omega
     subst this;exact _q ⟨rfl,lo,rfl,h2,h3,h4⟩
    ·rw[_j q];refine _i (uV V hk hP hx (i:=lo+(hi-lo) / 2) (by omega) ?_);dsimp only;cases e2:bey rk left key (at_ arr (base+(lo+(hi-lo) / 2)))
     ·simp only[_B,_ab];exact _q ⟨rfl,lo,_,rfl,by omega,by omega,by omega,h3,λi hi' hn=>anti _ _ hi' hn e2⟩
     ·simp only[_N];exact _q ⟨rfl,_,hi,rfl,by omega,by omega,by omega,λi hi'=>mono _ _ (by omega) (by omega) e2,h4⟩
   ·rintro c st2 ⟨rfl,lo,hi,rfl,h0,h1,h2,h3,h4⟩;have:lo=hi:=by omega
    subst this;exact⟨rfl,lo,rfl,h2,h3,h4⟩
   ·rintro c st2 ⟨rfl,k,rfl,h2,h3,h4⟩;exact _q (h k h2 h3 h4)
 ·simp only[_N];refine _i (_bE (_aJ (I:=λx c st'=>st'=st/\∃l o,c=(none,l,o)/\x+1<=o/\l<o/\hint+l<n/\bey rk left key (at_ arr (base+(hint+l)))=true) (Q:=λc st'=>st'=st/\∃l o,c=(none,l,o)/\hint+l+1<=hint+min o (n-hint)/\hint+min o (n-hint)<=n/\(∀i,i<hint+l+1->bey rk left key (at_ arr (base+i))=true)/\(∀i,hint+min o (n-hint)<=i->i<n->bey rk left key (at_ arr (base+i))=false)) ?_ ?_ ⟨rfl,0,1,rfl,by omega,by omega,by omega,e⟩) ?_)
  ·rintro x c st' _ hx' ⟨rfl,l,o,rfl,h1,h2,h3,h4⟩;dsimp only;by_cases q:o ≥ n-hint
   ·rw[_g q];exact _q ⟨rfl,l,o,rfl,by omega,by omega,λi hi=>mono i (hint+l) (by omega) h3 h4,λi hi hn=>by omega⟩
   ·rw[_j q];refine _i (uV V hk hP hx (i:=hint+o) (by omega) ?_);dsimp only;cases e2:bey rk left key (at_ arr (base+(hint+o)))
    ·simp only[_c2,_N];exact _q ⟨rfl,l,o,rfl,by omega,by omega,λi hi=>mono i (hint+l) (by omega) h3 h4,λi hi hn=>anti (hint+o) i (by omega) hn e2⟩
    ·simp only[_bn,_B,_ab];exact _q ⟨rfl,o,2*o+1,rfl,by omega,by omega,by omega,e2⟩
  ·rintro c st' ⟨rfl,l,o,rfl,h1,h2,h3,h4⟩;exact⟨rfl,l,o,rfl,by omega,by omega,λi hi=>mono i (hint+l) (by omega) h3 h4,λi hi hn=>by omega⟩
  ·rintro c st' ⟨rfl,l,o,rfl,f1,f2,f3,f4⟩;dsimp only;generalize hint+l+1=lo at f1 f3;generalize hint+min o (n-hint)=hi at f1 f2 f4;refine _i (_bE (_aJ (I:=λx c st2=>st2=st'/\∃lo hi,c=(none,lo,hi)/\hi-lo<=n-x/\lo<=hi/\hi<=n/\(∀i,i<lo->bey rk left key (at_ arr (base+i))=true)/\(∀i,hi<=i->i<n->bey rk left key (at_ arr (base+i))=false)) (Q:=λc st2=>st2=st'/\∃k,c=(none,k,k)/\k<=n/\(∀i,i<k->bey rk left key (at_ arr (base+i))=true)/\(∀i,k<=i->i<n->bey rk left key (at_ arr (base+i))=false)) ?_ ?_ ⟨rfl,lo,hi,rfl,by omega,f1,f2,f3,f4⟩) ?_)
   ·rintro x c st2 _ hx' ⟨rfl,lo,hi,rfl,h0,h1,h2,h3,h4⟩;dsimp only;by_cases q:lo ≥ hi
    ·rw[_g q];have:lo=hi:=by omega
     subst this;exact _q ⟨rfl,lo,rfl,h2,h3,h4⟩
    ·rw[_j q];refine _i (uV V hk hP hx (i:=lo+(hi-lo) / 2) (by omega) ?_);dsimp only;cases e2:bey rk left key (at_ arr (base+(lo+(hi-lo) / 2)))
     ·simp only[_B,_ab];exact _q ⟨rfl,lo,_,rfl,by omega,by omega,by omega,h3,λi hi' hn=>anti _ _ hi' hn e2⟩
     ·simp only[_N];exact _q ⟨rfl,_,hi,rfl,by omega,by omega,by omega,λi hi'=>mono _ _ (by omega) (by omega) e2,h4⟩
   ·rintro c st2 ⟨rfl,lo,hi,rfl,h0,h1,h2,h3,h4⟩;have:lo=hi:=by omega
    subst this;exact⟨rfl,lo,rfl,h2,h3,h4⟩
   ·rintro c st2 ⟨rfl,k,rfl,h2,h3,h4⟩;exact _q (h k h2 h3 h4)
end
section
variable {rk:Keyed->Nat}{a b out:Array Keyed}{ia ib:Nat}
def Srt(rk:Keyed->Nat)(a:Array Keyed):Prop:=∀i j,i<=j->j<a.size->rk (at_ a i)<=rk (at_ a j)
structure Mlo(rk:Keyed->Nat)(a b:Array Keyed)(ia ib:Nat)(out:Array Keyed):Prop where
 pm:out.toList.Perm (a.toList.take ia++b.toList.take ib)
 pw:out.toList.Pairwise λx y=>rk x<=rk y
 la:∀x∈out.toList,∀i,ia<=i->i<a.size->rk x<=rk (at_ a i)
 lb:∀x∈out.toList,∀j,ib<=j->j<b.size->rk x<=rk (at_ b j)
theorem zbz{i:Nat}(h:i<a.size):a.toList.take (i+1)=a.toList.take i++[at_ a i]:=by
 rw[_c1];simp[at_,h]
theorem Mlo.pushA(h:Mlo rk a b ia ib out)(sa:Srt rk a)(hi:ia<a.size)(le:∀j,ib<=j->j<b.size->rk (at_ a ia)<=rk (at_ b j)):Mlo rk a b (ia+1) ib (out.push (at_ a ia)):=by
 refine⟨?_,?_,?_,?_⟩
 ·rw[zbz hi,_al];refine (h.pm.append_right _).trans ?_;rw[_T,_T];exact _cj.append_left _
 ·rw[_al,List.pairwise_append];exact⟨h.pw,List.pairwise_singleton _ _,λx hx y hy=>by rw[_ao.mp hy];exact h.la x hx _ (_f _) hi⟩
 ·intro x hx i h1 h2;rw[_al]at hx;rcases _E.mp hx with hx | hx;·exact h.la x hx i (by omega) h2
  ·rw[_ao.mp hx];exact sa _ _ (by omega) h2
 ·intro x hx j h1 h2;rw[_al]at hx;rcases _E.mp hx with hx | hx;·exact h.lb x hx j h1 h2
  ·rw[_ao.mp hx];exact le j h1 h2
theorem Mlo.swap(h:Mlo rk a b ia ib out):Mlo rk b a ib ia out:=⟨h.pm.trans _cj,h.pw,h.lb,h.la⟩
theorem Mlo.pushB(h:Mlo rk a b ia ib out)(sb:Srt rk b)(hi:ib<b.size)(le:∀i,ia<=i->i<a.size->rk (at_ b ib)<=rk (at_ a i)):Mlo rk a b ia (ib+1) (out.push (at_ b ib)):=(h.swap.pushA sb hi le).swap
theorem z9A{i k:Nat}(h:i+k<a.size):a.extract i (i+(k+1))=(a.extract i (i+k)).push (at_ a (i+k)):=by
 apply Array.ext_getElem?;intro j;rw[Array.getElem?_push,_cc,_cc,_c4];by_cases e:j=k
 ·subst e;rw[_g (by omega),_g (by omega)];exact z4N h
 ·rw[_j (show ¬ j=min (i+k) a.size-i by omega)];by_cases q:j<k;·rw[_g (by omega),_g (by omega)]
  ·rw[_j (by omega),_j (by omega)]
theorem Mlo.moreA(h:Mlo rk a b ia ib out)(sa:Srt rk a):∀k,ia+k<=a.size->(∀i,ia<=i->i<ia+k->∀j,ib<=j->j<b.size->rk (at_ a i)<=rk (at_ b j))->Mlo rk a b (ia+k) ib (out++a.extract ia (ia+k))
 | 0,_,_=>by
  rw[_cd,show a.extract ia ia=#[] by simp;omega,_bx];exact h | k+1,hk,le=>by
  rw[z9A (by omega),Array.append_push];exact (h.moreA sa k (by omega) λi h1 h2=>le i h1 (by omega)).pushA sa (by omega) λj=>le _ (by omega) (by omega) j
theorem Mlo.moreB(h:Mlo rk a b ia ib out)(sb:Srt rk b)(k:Nat)(hk:ib+k<=b.size)(le:∀j,ib<=j->j<ib+k->∀i,ia<=i->i<a.size->rk (at_ b j)<=rk (at_ a i)):Mlo rk a b ia (ib+k) (out++b.extract ib (ib+k)):=(h.swap.moreA sb k hk le).swap
def Mrg(rk:Keyed->Nat)(a b r:Array Keyed):Prop:=r.toList.Perm (a.toList++b.toList)/\r.toList.Pairwise λx y=>rk x<=rk y
theorem Mlo.fin(h:Mlo rk a b a.size b.size out):Mrg rk a b out:=⟨by have:=h.pm;rwa [_aA (by simp),_aA (by simp)]at this,h.pw⟩
theorem Mlo.done(h:Mlo rk a b ia ib out)(sa:Srt rk a)(hi:ia<=a.size)(e:ib=b.size):Mrg rk a b (out++a.extract ia a.size++b.extract ib b.size):=by
 subst e;have:=h.moreA sa (a.size-ia) (by omega) λi h1 h2 j h3 h4=>absurd h3 (by omega);rw[show ia+(a.size-ia)=a.size by omega]at this;rw[show b.extract b.size b.size=#[] by simp,_bx];exact this.fin
theorem Mlo.lastA(h:Mlo rk a b ia ib out)(sa:Srt rk a)(sb:Srt rk b)(hi:ib<=b.size)(e:ia+1=a.size)(lt:∀j,j<b.size->rk (at_ b j)<=rk (at_ a (a.size-1))):Mrg rk a b (out++b.extract ib b.size++a.extract ia a.size):=by
 have h1:=h.moreB sb (b.size-ib) (by omega) λj h1 h2 i h3 h4=>by
  have:i=a.size-1:=by omega
  subst this;exact lt j (by omega)
 rw[show ib+(b.size-ib)=b.size by omega]at h1;have h2:=h1.moreA sa 1 (by omega) λi h1 h2 j h3 h4=>absurd h3 (by omega);rw[e]at h2;exact h2.fin
end
section
variable {prog:Program}{w:World}{A:Around}{E:Value->Shared->Prop}{s:Shared}{κ:SortKind}{P:Keyed->Prop}{rk:Keyed->Nat}(V:Env prog w A s κ P rk) {arr a b:Array Keyed}{st:SortSt}
omit V in
theorem yK{α:Type}{c:Prop} [Decidable c]{u v:StateT SortSt Sem α}{Q:α->SortSt->Prop}{st:SortSt}(h1:c->wpS (model prog w) A E s u Q st)(h2:¬ c->wpS (model prog w) A E s v Q st):wpS (model prog w) A E s (if c then u else v) Q st:=by
 split;·exact h1 ‹_›
 ·exact h2 ‹_›
omit V in
theorem kQ{α:Type}{c:Prop} [Decidable c]{u v:StateT SortSt Sem α}{Q:α->SortSt->Prop}{st:SortSt}(h1:c)(h2:wpS (model prog w) A E s u Q st):wpS (model prog w) A E s (if c then u else v) Q st:=yK (λ_=>h2) λh=>absurd h1 h
omit V in
omit V in
theorem zft{α:Type}{c:Prop} [Decidable c]{u v x:StateT SortSt Sem α}{Q:α->SortSt->Prop}{st:SortSt}(h1:c->u=x)(h2:¬ c->v=x)(h:wpS (model prog w) A E s x Q st):wpS (model prog w) A E s (if c then u else v) Q st:=by
 split;·rw[h1 ‹_›];exact h
 ·rw[h2 ‹_›];exact h
omit V in
theorem zaq{a:Array Keyed}{i k:Nat}(h:¬ k > 0)(out:Array Keyed):out++a.extract i (i+k)=out/\i+k=i:=by
 have:k=0:=by omega
 subst this;refine⟨?_,rfl⟩;rw[show a.extract i (i+0)=#[] by simp;omega,_bx]
def z2m(st st':SortSt):Prop:=kindOf st'=kindOf st/\arrOf st'=arrOf st/\pendingOf st'=pendingOf st/\failedOf st'=failedOf st
def z9S{ω τ:Type}(Tq:ω->SortSt->Prop)(J I:τ->SortSt->Prop):ForInStep (Option ω×τ)->SortSt->Prop
 | .done (some r,_),st=>Tq r st | .done (none,c),st=>J c st | .yield (some _,_),_=>False | .yield (none,c),st=>I c st
omit V in
theorem jS {ω τ:Type} {n m:Nat} {f:Nat->Option ω×τ->StateT SortSt Sem (ForInStep (Option ω×τ))} {K:Option ω×τ->SortSt->Prop} {c0:τ} (Tq:ω->SortSt->Prop) (J:τ->SortSt->Prop) (I:Nat->τ->SortSt->Prop) (step:∀i c st,m<=i->i<n->I i c st->wpS (model prog w) A E s (f i (none,c)) (z9S Tq J (I (i+1))) st) (fin:∀c st,I (max m n) c st->J c st) (h0:I m c0 st) (ret:∀r d st,Tq r st->K (some r,d) st) (nxt:∀c st,J c st->K (none,c) st):wpS (model prog w) A E s (forIn [m:n] (none,c0) f) K st:=by
 refine _bE (_aJ (I:=λx c st'=>∃d,c=(none,d)/\I x d st') (Q:=λc st'=>(∃r d,c=(some r,d)/\Tq r st')\/∃d,c=(none,d)/\J d st') ?_ ?_ ⟨_,rfl,h0⟩) ?_
 ·rintro i c st' hm hi ⟨d,rfl,h⟩;refine _bE (step i d st' hm hi h) λr st2 e=>?_;match r,e with
  | .done (some r,d),e=>exact .inl ⟨r,d,rfl,e⟩ | .done (none,d),e=>exact .inr ⟨d,rfl,e⟩ | .yield (none,d),e=>exact⟨d,rfl,e⟩
 ·rintro c st' ⟨d,rfl,h⟩;exact .inr ⟨d,rfl,fin d st' h⟩
 ·rintro c st' (⟨r,d,rfl,h⟩ | ⟨d,rfl,h⟩);·exact ret r d st' h
  ·exact nxt d st' h
include V
theorem z6Z {Q:Array Keyed->SortSt->Prop} (hk:kindOf st=κ) (Pa:∀i,i<a.size->P (at_ a i)) (Pb:∀i,i<b.size->P (at_ b i)) (sa:Srt rk a) (sb:Srt rk b) (na:1<=a.size) (nb:1<=b.size) (first:rk (at_ b 0)<rk (at_ a 0)) (last:rk (at_ b (b.size-1))<rk (at_ a (a.size-1))) (h:∀r st',z2m st st'->Mrg rk a b r->Q r st'):wpS (model prog w) A E s (zaj a b) Q st:=by
 have lastA:∀j,j<b.size->rk (at_ b j)<rk (at_ a (a.size-1)):=λj hj=>by have:=sb j (b.size-1) (by omega) (by omega);omega
 have lastA':∀j,j<b.size->rk (at_ b j)<=rk (at_ a (a.size-1)):=λj hj=>_az (lastA j hj);have m1:Mlo rk a b 0 1 #[at_ b 0]:=by
  have m0:Mlo rk a b 0 0 #[]:=⟨by simp,by simp,λx hx=>by simp at hx,λx hx=>by simp at hx⟩;exact m0.pushB sb (by omega) λi _ hi=>by have:=sa 0 i (by omega) hi;omega
 have fin:∀{out:Array Keyed} {ia ib:Nat},Mlo rk a b ia ib out->ib<=b.size->ia+1=a.size->Mrg rk a b (out++b.extract ib b.size++a.extract ia a.size):=λm hb e=>m.lastA sa sb hb e lastA';have ga:∀{st':SortSt} {ia ib:Nat} {R:Option Nat->SortSt->Prop},kindOf st'=κ->ia<a.size->ib<b.size->(∀k,ia+k<a.size->(∀i,ia<=i->i<ia+k->rk (at_ a i)<=rk (at_ b ib))->(∀i,ia+k<=i->i<a.size->rk (at_ b ib)<rk (at_ a i))->R (some k) st')->wpS (model prog w) A E s (z0X false (at_ b ib) a ia (a.size-ia) 0) R st':=λ{st' ia ib R} k1 h1 h2 hh=>by
  refine ua V k1 Pa (Pb _ h2) (by omega) (by omega) (λi j hij hj=>?_) λk hk f1 f2=>?_
  ·simp only[bey,_B,_ab,_aP,_ad];have:=sa (ia+i) (ia+j) (by omega) (by omega);omega
  ·simp only[bey,_B,_ab,_aP,_ad,_c5,_m]at f1 f2;have kl:ia+k<a.size:=by
    rcases Nat.lt_or_ge (ia+k) a.size with z | z;·exact z
    ·have z1:=f1 (a.size-1-ia) (by omega);rw[show ia+(a.size-1-ia)=a.size-1 by omega]at z1;exact absurd (lastA ib h2) z1
   refine hh k kl (λi z1 z2=>?_) λi z1 z2=>?_
   ·have:=f1 (i-ia) (by omega);rw[show ia+(i-ia)=i by omega]at this;omega
   ·have:=f2 (i-ia) (by omega) (by omega);rwa [show ia+(i-ia)=i by omega]at this
 have gb:∀{st':SortSt} {ia ib:Nat} {R:Option Nat->SortSt->Prop},kindOf st'=κ->ia<a.size->ib<b.size->(∀k,ib+k<=b.size->(∀j,ib<=j->j<ib+k->rk (at_ b j)<rk (at_ a ia))->(∀j,ib+k<=j->j<b.size->rk (at_ a ia)<=rk (at_ b j))->R (some k) st')->wpS (model prog w) A E s (z0X true (at_ a ia) b ib (b.size-ib) 0) R st':=λ{st' ia ib R} k1 h1 h2 hh=>by
  refine ua V k1 Pb (Pa _ h1) (by omega) (by omega) (λi j hij hj=>?_) λk hk f1 f2=>?_
  ·simp only[bey,_N,_m];have:=sb (ib+i) (ib+j) (by omega) (by omega);omega
  ·simp only[bey,_N,_m,_ad]at f1 f2;refine hh k (by omega) (λi z1 z2=>?_) λi z1 z2=>?_
   ·have:=f1 (i-ib) (by omega);rwa [show ib+(i-ib)=i by omega]at this
   ·have:=f2 (i-ib) (by omega) (by omega);rw[show ib+(i-ib)=i by omega]at this;omega
 refine _i (_c3 (_at ⟨rfl,_i (yc (by omega) (yK (λq1=>_q (h _ _ ⟨rfl,rfl,rfl,rfl⟩ (m1.done sa (by omega) (by simpa using q1)))) λq1=>yK (λq2=>_q (h _ _ ⟨rfl,rfl,rfl,rfl⟩ (fin m1 (by omega) (by simpa using q2)))) λq2=>_i (_cb (_i ?_))))⟩));have q1:=show ¬ 1=b.size by simpa using q1
 have q2:=show ¬ 0+1=a.size by simpa using q2
 refine jS (λr st'=>z2m st st'/\Mrg rk a b r) (λ_ _=>False) (λx c st'=>x+1<=c.2.1+c.2.2.1/\z2m st st'/\Mlo rk a b c.2.1 c.2.2.1 c.1/\c.2.1+1<a.size/\c.2.2.1<b.size) ?_ (λc st' z=>absurd z.1 (by omega)) ⟨by show 0+1<=0+1;omega,⟨rfl,rfl,rfl,rfl⟩,m1,by show 0+1<a.size;omega,by show 1<b.size;omega⟩ (λr d st' z=>_q (h r _ z.1 z.2)) (λc st' z=>z.elim);intro x c st1 _ hx I0;refine _i (jS (λr st'=>z2m st st'/\Mrg rk a b r) (λc st'=>x+1<=c.2.1+c.2.2.1/\z2m st st'/\Mlo rk a b c.2.1 c.2.2.1 c.1/\c.2.1+1<a.size/\c.2.2.1<b.size) (λy c st'=>x+1+y<=c.2.1+c.2.2.1/\z2m st st'/\Mlo rk a b c.2.1 c.2.2.1 c.1/\c.2.1+1<a.size/\c.2.2.1<b.size) ?_ (λc st' z=>absurd z.1 (by omega)) I0 (λr d st' z=>_q z) λc st2 J0=>?_)
 ·intro y c st2 _ hy I1;have lk:=I1.2.1;have m:=I1.2.2.1;have c1:=I1.1;have c2:=I1.2.2.2.1;have c3:=I1.2.2.2.2;refine _i (yc c3 (_i (yc (_bl c2) (_i (z8I V (lk.1.trans hk) (Pb _ c3) (Pa _ (_bl c2)) (yK (λq=>?_) λq=>?_))))))
  ·have m2:=m.pushB sb c3 λi h1 h2=>by have:=sa _ i h1 h2;simp only[_m]at q;omega
   have b1:x+1<=c.2.1+(c.2.2.1+1):=by omega
   have b2:x+1+(y+1)<=c.2.1+(c.2.2.1+1):=by omega
   have b3:¬ ((c.2.2.1+1==b.size)=true)->c.2.2.1+1<b.size:=λe=>by have:¬ c.2.2.1+1=b.size:=(by simpa using e);omega
   exact _i (yc c3 (yK (λe=>_q ⟨lk,m2.done sa (_az (_bl c2)) (by simpa using e)⟩) λe=>yK (λ_=>_q ⟨b1,lk,m2,c2,b3 e⟩) λ_=>_q ⟨b2,lk,m2,c2,b3 e⟩))
  ·have m2:=m.pushA sa (_bl c2) λi h1 h2=>by have:=sb _ i h1 h2;simp only[_m]at q;omega
   have b1:x+1<=c.2.1+1+c.2.2.1:=by omega
   have b2:x+1+(y+1)<=c.2.1+1+c.2.2.1:=by omega
   have b3:¬ ((c.2.1+1+1==a.size)=true)->c.2.1+1+1<a.size:=λe=>by have:¬ c.2.1+1+1=a.size:=(by simpa using e);omega
   exact _i (yc (_bl c2) (yK (λe=>_q ⟨lk,fin m2 (_az c3) (by simpa using e)⟩) λe=>yK (λ_=>_q ⟨b1,lk,m2,b3 e,c3⟩) λ_=>_q ⟨b2,lk,m2,b3 e,c3⟩))
 have lk:=J0.2.1;have m:=J0.2.2.1;have c1:=J0.1;have c2:=J0.2.2.2.1;have c3:=J0.2.2.2.2;refine _i (_c3 (_at ⟨rfl,_i (jS (λr st'=>z2m st st'/\Mrg rk a b r) (λc st'=>x+1+1<=c.2.1+c.2.2.1/\z2m st st'/\Mlo rk a b c.2.1 c.2.2.1 c.1/\c.2.1+1<a.size/\c.2.2.1<b.size) (λy c st'=>x+1+y<=c.2.1+c.2.2.1/\z2m st st'/\Mlo rk a b c.2.1 c.2.2.1 c.1/\c.2.1+1<a.size/\c.2.2.1<b.size) ?_ (λc st' z=>absurd z.1 (by omega)) J0 (λr d st' z=>_q z) λc st3 z=>_i (_aW (_q z)))⟩));intro y c st3 _ hy I1;have lk:=I1.2.1;have m:=I1.2.2.1;have c1:=I1.1;have c2:=I1.2.2.2.1;have c3:=I1.2.2.2.2;have later:∀{k:Nat},c.2.1+k<a.size->(∀i,c.2.1<=i->i<c.2.1+k->rk (at_ a i)<=rk (at_ b c.2.2.1))->(∀i,c.2.1+k<=i->i<a.size->rk (at_ b c.2.2.1)<rk (at_ a i))->Mlo rk a b (c.2.1+k) c.2.2.1 (c.1++a.extract c.2.1 (c.2.1+k))/\Mlo rk a b (c.2.1+k) (c.2.2.1+1) ((c.1++a.extract c.2.1 (c.2.1+k)).push (at_ b c.2.2.1)):=λ{k} k1 k2 k3=>by
  have m2:=m.moreA sa k (by omega) λi h1 h2 j h3 h4=>by have:=k2 i h1 h2;have:=sb _ j h3 h4;omega
  exact⟨m2,m2.pushB sb c3 λi h1 h2=>_az (k3 i h1 h2)⟩
 refine yK (λ_=>?_) λ_=>?_;all_goals
  refine _i (_aW (_i (yc c3 (_i (ga (ia:=c.2.1) (ib:=c.2.2.1) (lk.1.trans hk) (_bl c2) c3 λk k1 k2 k3=>?_)))));have L:=later k1 k2 k3;have m2:=L.1;have m3:=L.2;by_cases e1:c.2.1+k+1=a.size
  ·have k0:k > 0:=by omega
   exact kQ k0 (kQ (by simpa using e1) (_q ⟨lk,fin m2 (_az c3) e1⟩))
  have c2':c.2.1+k+1<a.size:=by omega
  have c1':x+1+y<=c.2.1+k+c.2.2.1:=by omega
  have z1:¬ c.2.1+k=a.size:=by omega
  clear m m2 L later c1 I1;refine zft (λk0=>(_j (by simpa using e1)).trans (_j (by simpa using z1))) (λk0=>by rw[(zaq k0 c.1).1,(zaq (a:=a) (i:=c.2.1) k0 c.1).2]) ?_;refine _i (yc c3 (yK (λe2=>_q ⟨lk,m3.done sa (by omega) (by simpa using e2)⟩) λe2=>?_));have e2:¬ c.2.2.1+1=b.size:=by simpa using e2
  refine _i (yc k1 (_i (gb (ia:=c.2.1+k) (ib:=c.2.2.1+1) (lk.1.trans hk) k1 (by omega) λk' k1' k2' k3'=>?_)));have m4:=m3.moreB sb k' k1' λj h1 h2 i h3 h4=>by have:=k2' j h1 h2;have:=sa _ i h3 h4;omega
  by_cases e3:c.2.2.1+1+k'=b.size
  ·have k0':k' > 0:=by omega
   exact kQ k0' (kQ (by simpa using e3) (_q ⟨lk,m4.done sa (by omega) e3⟩))
  have m5:=m4.pushA sa k1 λj h1 h2=>k3' j h1 h2;have c3':c.2.2.1+1+k'<b.size:=by omega
  have b1:x+1+1<=c.2.1+k+1+(c.2.2.1+1+k'):=by omega
  have b2:x+1+(y+1)<=c.2.1+k+1+(c.2.2.1+1+k'):=by omega
  clear m3 m4;refine zft (λk0'=>_j (by simpa using e3)) (λk0'=>by rw[(zaq k0' _).1,(zaq (a:=b) (i:=c.2.2.1+1) k0' #[]).2]) ?_;refine _i (yc k1 (yK (λe4=>_q ⟨lk,fin m5 (by omega) (by simpa using e4)⟩) λe4=>?_));have b3:c.2.1+k+1+1<a.size:=by
   have:¬ c.2.1+k+1+1=a.size:=(by simpa using e4);omega
  exact yK (λ_=>_q ⟨b1,lk,m5,b3,c3'⟩) λ_=>_q ⟨b2,lk,m5,b3,c3'⟩
end
section
variable {rk:Keyed->Nat}{a b out:Array Keyed}{na nb:Nat}
structure Mhi(rk:Keyed->Nat)(a b:Array Keyed)(na nb:Nat)(out:Array Keyed):Prop where
 pm:out.toList.reverse.Perm (a.toList.drop na++b.toList.drop nb)
 pw:out.toList.reverse.Pairwise λx y=>rk x<=rk y
 la:∀x∈out.toList,∀i,i<na->rk (at_ a i)<=rk x
 lb:∀x∈out.toList,∀j,j<nb->rk (at_ b j)<=rk x
theorem z81{i:Nat}(h:i<a.size):a.toList.drop i=at_ a i::a.toList.drop (i+1):=by
 rw[_aT (by simpa using h)];simp[at_,h]
theorem Mhi.pushA{m:Nat}(h:Mhi rk a b (m+1) nb out)(sa:Srt rk a)(hi:m<a.size)(le:∀j,j<nb->rk (at_ b j)<=rk (at_ a m)):Mhi rk a b m nb (out.push (at_ a m)):=by
 have er:(out.push (at_ a m)).toList.reverse=at_ a m::out.toList.reverse:=by simp
 refine⟨?_,?_,?_,?_⟩
 ·rw[er,z81 hi];exact h.pm.cons _
 ·rw[er,_bf];exact⟨λx hx=>h.la x (List.mem_reverse.mp hx) m (by omega),h.pw⟩
 ·intro x hx i h1;rw[_al]at hx;rcases _E.mp hx with hx | hx;·exact h.la x hx i (by omega)
  ·rw[_ao.mp hx];exact sa _ _ (by omega) hi
 ·intro x hx j h1;rw[_al]at hx;rcases _E.mp hx with hx | hx;·exact h.lb x hx j h1
  ·rw[_ao.mp hx];exact le j h1
theorem Mhi.swap(h:Mhi rk a b na nb out):Mhi rk b a nb na out:=⟨h.pm.trans _cj,h.pw,h.lb,h.la⟩
theorem Mhi.pushB{m:Nat}(h:Mhi rk a b na (m+1) out)(sb:Srt rk b)(hi:m<b.size)(le:∀j,j<na->rk (at_ a j)<=rk (at_ b m)):Mhi rk a b na m (out.push (at_ b m)):=(h.swap.pushA sb hi le).swap
theorem zd4{i k:Nat}(h:i<a.size)(hk:i<k)(hz:k<=a.size):(a.extract i k).reverse=(a.extract (i+1) k).reverse.push (at_ a i):=by
 apply Array.toList_inj.mp;simp only[Array.toList_reverse,_al,Array.toList_extract,List.extract_eq_take_drop];rw[z81 h,show k-i=(k-(i+1))+1 by omega,List.take_succ_cons,_bC]
theorem Mhi.moreA(h:Mhi rk a b na nb out)(sa:Srt rk a)(hz:na<=a.size):∀k m,m+k=na->(∀i,m<=i->i<na->∀j,j<nb->rk (at_ b j)<=rk (at_ a i))->Mhi rk a b m nb (out++(a.extract m na).reverse)
 | 0,m,e,_=>by
  rw[show m=na by omega,show a.extract na na=#[] by simp;omega,Array.reverse_empty,_bx];exact h | k+1,m,e,le=>by
  rw[zd4 (by omega) (by omega) hz,Array.append_push];exact (h.moreA sa hz k (m+1) (by omega) λi h1 h2=>le i (by omega) h2).pushA sa (by omega) (le m (_f _) (by omega))
theorem Mhi.moreB(h:Mhi rk a b na nb out)(sb:Srt rk b)(hz:nb<=b.size)(k m:Nat)(e:m+k=nb)(le:∀j,m<=j->j<nb->∀i,i<na->rk (at_ a i)<=rk (at_ b j)):Mhi rk a b na m (out++(b.extract m nb).reverse):=(h.swap.moreA sb hz k m e le).swap
theorem Mhi.fin(h:Mhi rk a b 0 0 out):Mrg rk a b out.reverse:=⟨by simpa using h.pm,by simpa using h.pw⟩
theorem z54(x y:Array Keyed):(x++y.reverse).reverse=y++x.reverse:=by simp
theorem Mhi.done(h:Mhi rk a b na nb out)(sb:Srt rk b)(hz:nb<=b.size)(e:na=0):Mrg rk a b (a.extract 0 na++b.extract 0 nb++out.reverse):=by
 subst e;have:=h.moreB sb hz nb 0 (by omega) λj _ _ i hi=>by omega
 rw[show a.extract 0 0=#[] by simp,Array.empty_append,<- z54];exact this.fin
theorem Mhi.firstB(h:Mhi rk a b na nb out)(sa:Srt rk a)(sb:Srt rk b)(hz:na<=a.size)(zb:nb<=b.size)(e:nb=1)(lt:∀i,i<a.size->rk (at_ b 0)<=rk (at_ a i)):Mrg rk a b (b.extract 0 nb++a.extract 0 na++out.reverse):=by
 subst e;have h1:=h.moreA sa hz na 0 (by omega) λi h1 h2 j h3=>by
  have:j=0:=by omega
  subst this;exact lt i (by omega)
 have h2:=h1.moreB sb zb 1 0 (by omega) λj _ _ i hi=>by omega
 rw[Array.append_assoc,<- z54,<- z54];exact h2.fin
end
theorem z9T{a:Array Keyed}{k n:Nat}(hk:k<=n)(h:¬ n-k > 0)(out:Array Keyed):out++(a.extract k n).reverse=out/\k=n:=by
 have:n=k:=by omega
 subst this;refine⟨?_,rfl⟩;rw[show a.extract n n=#[] by simp;omega,Array.reverse_empty,_bx]
section
variable {prog:Program}{w:World}{A:Around}{E:Value->Shared->Prop}{s:Shared}{κ:SortKind}{P:Keyed->Prop}{rk:Keyed->Nat}(V:Env prog w A s κ P rk) {arr a b:Array Keyed}{st:SortSt}
include V
theorem z6c {Q:Array Keyed->SortSt->Prop} (hk:kindOf st=κ) (Pa:∀i,i<a.size->P (at_ a i)) (Pb:∀i,i<b.size->P (at_ b i)) (sa:Srt rk a) (sb:Srt rk b) (pa:1<=a.size) (pb:1<=b.size) (first:rk (at_ b 0)<rk (at_ a 0)) (last:rk (at_ b (b.size-1))<rk (at_ a (a.size-1))) (h:∀r st',z2m st st'->Mrg rk a b r->Q r st'):wpS (model prog w) A E s (zal a b) Q st:=by
 have lastA:∀j,j<b.size->rk (at_ b j)<rk (at_ a (a.size-1)):=λj hj=>by have:=sb j (b.size-1) (by omega) (by omega);omega
 have firstB:∀i,i<a.size->rk (at_ b 0)<rk (at_ a i):=λi hi=>by have:=sa 0 i (by omega) hi;omega
 have firstB':∀i,i<a.size->rk (at_ b 0)<=rk (at_ a i):=λi hi=>_az (firstB i hi);have m1:Mhi rk a b (a.size-1) b.size #[at_ a (a.size-1)]:=by
  have m0:Mhi rk a b (a.size-1+1) b.size #[]:=⟨by rw[show a.size-1+1=a.size by omega];simp,by simp,λx hx=>by simp at hx,λx hx=>by simp at hx⟩;exact m0.pushA sa (by omega) λi hi=>_az (lastA i hi)
 have ga:∀{st':SortSt} {na nb:Nat} {R:Option Nat->SortSt->Prop},kindOf st'=κ->0<na->na<=a.size->nb<b.size->(∀k,k<=na->(∀i,i<k->rk (at_ a i)<=rk (at_ b nb))->(∀i,k<=i->i<na->rk (at_ b nb)<rk (at_ a i))->R (some k) st')->wpS (model prog w) A E s (z0X false (at_ b nb) a 0 na (na-1)) R st':=λ{st' na nb R} k1 h0 h1 h2 hh=>by
  refine ua V k1 Pa (Pb _ h2) (by omega) (by omega) (λi j hij hj=>?_) λk hk f1 f2=>?_
  ·simp only[bey,_B,_ab,_aP,_ad];have:=sa (0+i) (0+j) (by omega) (by omega);omega
  ·simp only[bey,_B,_ab,_aP,_ad,_c5,_m,_aj]at f1 f2;exact hh k hk (λi z1=>by have:=f1 i z1;omega) f2
 have gb:∀{st':SortSt} {na nb:Nat} {R:Option Nat->SortSt->Prop},kindOf st'=κ->na<a.size->0<nb->nb<=b.size->(∀k,1<=k->k<=nb->(∀j,j<k->rk (at_ b j)<rk (at_ a na))->(∀j,k<=j->j<nb->rk (at_ a na)<=rk (at_ b j))->R (some k) st')->wpS (model prog w) A E s (z0X true (at_ a na) b 0 nb (nb-1)) R st':=λ{st' na nb R} k1 h0 h1 h2 hh=>by
  refine ua V k1 Pb (Pa _ h0) (by omega) (by omega) (λi j hij hj=>?_) λk hk f1 f2=>?_
  ·simp only[bey,_N,_m];have:=sb (0+i) (0+j) (by omega) (by omega);omega
  ·simp only[bey,_N,_m,_ad,_aj]at f1 f2;have k1:1<=k:=by
    rcases _c6 k with z | z;·exact absurd (firstB na h0) (f2 0 (by omega) h1)
    ·exact z
   exact hh k k1 hk f1 (λi z1 z2=>by have:=f2 i z1 z2;omega)
 have fin:∀{out:Array Keyed} {na nb:Nat},Mhi rk a b na nb out->na<=a.size->nb<=b.size->nb=1->Mrg rk a b (b.extract 0 nb++a.extract 0 na++out.reverse):=λm ha hb e=>m.firstB sa sb ha hb e firstB';refine _i (_c3 (_at ⟨rfl,_i (yc (by omega) (yK (λq1=>_q (h _ _ ⟨rfl,rfl,rfl,rfl⟩ (m1.done sb (_f _) (by simpa using q1)))) λq1=>yK (λq2=>_q (h _ _ ⟨rfl,rfl,rfl,rfl⟩ (fin m1 (Nat.sub_le _ _) (_f _) (by simpa using q2)))) λq2=>_i (_cb (_i ?_))))⟩));have q1:¬ a.size-1=0:=by simpa using q1
 have q2:¬ b.size=1:=by simpa using q2
 refine jS (λr st'=>z2m st st'/\Mrg rk a b r) (λ_ _=>False) (λx c st'=>c.1+c.2.1+x<a.size+b.size/\z2m st st'/\Mhi rk a b c.1 c.2.1 c.2.2.1/\(0<c.1/\c.1<=a.size)/\1<c.2.1/\c.2.1<=b.size) ?_ (λc st' z=>absurd z.1 (by omega)) ⟨by show a.size-1+b.size+0<_;omega,⟨rfl,rfl,rfl,rfl⟩,m1,⟨by show 0<a.size-1;omega,Nat.sub_le _ _⟩,by show 1<b.size;omega,_f _⟩ (λr d st' z=>_q (h r _ z.1 z.2)) (λc st' z=>z.elim);intro x c st1 _ hx I0;refine _i (jS (λr st'=>z2m st st'/\Mrg rk a b r) (λc st'=>c.1+c.2.1+x<a.size+b.size/\z2m st st'/\Mhi rk a b c.1 c.2.1 c.2.2.1/\(0<c.1/\c.1<=a.size)/\1<c.2.1/\c.2.1<=b.size) (λy c st'=>c.1+c.2.1+x+y<a.size+b.size/\z2m st st'/\Mhi rk a b c.1 c.2.1 c.2.2.1/\(0<c.1/\c.1<=a.size)/\1<c.2.1/\c.2.1<=b.size) ?_ (λc st' z=>absurd z.1 (by omega)) I0 (λr d st' z=>_q z) λc st2 J0=>?_)
 ·intro y c st2 _ hy I1;have lk:=I1.2.1;have m:=I1.2.2.1;have c1:=I1.1;have c2:=I1.2.2.2.1;have c3:=I1.2.2.2.2;have la:c.1-1<a.size:=by omega
  have lb:c.2.1-1<b.size:=by omega
  have ea:c.1-1+1=c.1:=by omega
  have eb:c.2.1-1+1=c.2.1:=by omega
  refine _i (yc lb (_i (yc la (_i (z8I V (lk.1.trans hk) (Pb _ lb) (Pa _ la) (yK (λq=>?_) λq=>?_))))))
  ·have m2:=Mhi.pushA (m:=c.1-1) (by rw[ea];exact m) sa la λi h1=>by have:=sb i (c.2.1-1) (by omega) lb;simp only[_m]at q;omega
   have b1:c.1-1+c.2.1+x<a.size+b.size:=by omega
   have b2:c.1-1+c.2.1+x+(y+1)<a.size+b.size:=by omega
   have b3:¬ ((c.1-1==0)=true)->0<c.1-1:=λe=>by have:¬ c.1-1=0:=(by simpa using e);omega
   have b4:c.1-1<=a.size:=by omega
   exact _i (yc la (yK (λe=>_q ⟨lk,m2.done sb c3.2 (by simpa using e)⟩) λe=>yK (λ_=>_q ⟨b1,lk,m2,⟨b3 e,b4⟩,c3⟩) λ_=>_q ⟨b2,lk,m2,⟨b3 e,b4⟩,c3⟩))
  ·have m2:=Mhi.pushB (m:=c.2.1-1) (by rw[eb];exact m) sb lb λi h1=>by have:=sa i (c.1-1) (by omega) la;simp only[_m]at q;omega
   have b1:c.1+(c.2.1-1)+x<a.size+b.size:=by omega
   have b2:c.1+(c.2.1-1)+x+(y+1)<a.size+b.size:=by omega
   have b3:¬ ((c.2.1-1==1)=true)->1<c.2.1-1:=λe=>by have:¬ c.2.1-1=1:=(by simpa using e);omega
   have b4:c.2.1-1<=b.size:=by omega
   exact _i (yc lb (yK (λe=>_q ⟨lk,fin m2 c2.2 b4 (by simpa using e)⟩) λe=>yK (λ_=>_q ⟨b1,lk,m2,c2,b3 e,b4⟩) λ_=>_q ⟨b2,lk,m2,c2,b3 e,b4⟩))
 refine _i (_c3 (_at ⟨rfl,_i (jS (λr st'=>z2m st st'/\Mrg rk a b r) (λc st'=>c.1+c.2.1+x+1<a.size+b.size/\z2m st st'/\Mhi rk a b c.1 c.2.1 c.2.2.1/\(0<c.1/\c.1<=a.size)/\1<c.2.1/\c.2.1<=b.size) (λy c st'=>c.1+c.2.1+x+y<a.size+b.size/\z2m st st'/\Mhi rk a b c.1 c.2.1 c.2.2.1/\(0<c.1/\c.1<=a.size)/\1<c.2.1/\c.2.1<=b.size) ?_ (λc st' z=>absurd z.1 (by omega)) J0 (λr d st' z=>_q z) λc st3 z=>_i (_aW (_q z)))⟩));intro y c st3 _ hy I1;have lk:=I1.2.1;have m:=I1.2.2.1;have c1:=I1.1;have c2:=I1.2.2.2.1;have c3:=I1.2.2.2.2;have lb:c.2.1-1<b.size:=by omega
 have eb:c.2.1-1+1=c.2.1:=by omega
 have later:∀{k:Nat},k<=c.1->(∀i,i<k->rk (at_ a i)<=rk (at_ b (c.2.1-1)))->(∀i,k<=i->i<c.1->rk (at_ b (c.2.1-1))<rk (at_ a i))->Mhi rk a b k c.2.1 (c.2.2.1++(a.extract k c.1).reverse)/\Mhi rk a b k (c.2.1-1) ((c.2.2.1++(a.extract k c.1).reverse).push (at_ b (c.2.1-1))):=λ{k} k1 k2 k3=>by
  have m2:=m.moreA sa c2.2 (c.1-k) k (by omega) λi h1 h2 j h3=>by have:=k3 i h1 h2;have:=sb j (c.2.1-1) (by omega) lb;omega
  exact⟨m2,Mhi.pushB (m:=c.2.1-1) (by rw[eb];exact m2) sb lb k2⟩
 refine yK (λ_=>?_) λ_=>?_;all_goals
  refine _i (_aW (_i (yc lb (_i (ga (na:=c.1) (nb:=c.2.1-1) (lk.1.trans hk) c2.1 c2.2 lb λk k1 k2 k3=>?_)))));have L:=later k1 k2 k3;have m2:=L.1;have m3:=L.2;by_cases e1:k=0
  ·have k0:c.1-k > 0:=by omega
   exact kQ k0 (kQ (by simpa using e1) (_q ⟨lk,m2.done sb c3.2 e1⟩))
  clear m m2 L later I1;have lk1:k-1<a.size:=by omega
  have ek:k-1+1=k:=by omega
  have b6:k<=a.size:=by omega
  have b7:c.2.1-1<=b.size:=by omega
  have b8:0<c.2.1-1:=by omega
  refine zft (λk0=>_j (by simpa using e1)) (λk0=>by rw[(z9T k1 k0 c.2.2.1).1,(z9T (a:=a) k1 k0 c.2.2.1).2]) ?_;refine _i (yc lb (yK (λe2=>_q ⟨lk,fin m3 b6 b7 (by simpa using e2)⟩) λe2=>?_));have e2:¬ c.2.1-1=1:=by simpa using e2
  refine _i (yc lk1 (_i (gb (na:=k-1) (nb:=c.2.1-1) (lk.1.trans hk) lk1 b8 b7 λk' k0' k1' k2' k3'=>?_)));have m4:=m3.moreB sb b7 (c.2.1-1-k') k' (by omega) λj h1 h2 i h3=>by have:=k3' j h1 h2;have:=sa i (k-1) (by omega) lk1;omega
  by_cases e3:k'=1
  ·have k00':c.2.1-1-k' > 0:=by omega
   exact kQ k00' (kQ (by simpa using e3) (_q ⟨lk,fin m4 b6 (by omega) e3⟩))
  have m5:=Mhi.pushA (m:=k-1) (by rw[ek];exact m4) sa lk1 λj h1=>_az (k2' j h1);have z1:¬ k'=0:=by omega
  have b1:k-1+k'+x+1<a.size+b.size:=by omega
  have b2:k-1+k'+x+(y+1)<a.size+b.size:=by omega
  have b5:1<k'/\k'<=b.size:=by omega
  clear m3 m4;refine zft (λk00'=>(_j (by simpa using e3)).trans (_j (by simpa using z1))) (λk00'=>by rw[(z9T k1' k00' _).1,(z9T (a:=b) k1' k00' #[]).2]) ?_;refine _i (yc lk1 (yK (λe4=>_q ⟨lk,m5.done sb b5.2 (by simpa using e4)⟩) λe4=>?_));have b3:0<k-1/\k-1<=a.size:=by
   have:¬ k-1=0:=(by simpa using e4);omega
  exact yK (λ_=>_q ⟨b1,lk,m5,b3,b5⟩) λ_=>_q ⟨b2,lk,m5,b3,b5⟩
end
section
variable {rk:Keyed->Nat}{a b x y r:Array Keyed}
def wE(rk:Keyed->Nat)(a:Array Keyed)(lo hi:Nat):Prop:=∀i j,lo<=i->i<=j->j<hi->rk (at_ a i)<=rk (at_ a j)
def zh1(a b:Array Keyed)(lo hi:Nat):Prop:=∀i,i<lo\/hi<=i->at_ b i=at_ a i
theorem zb9{i lo hi:Nat}(h1:lo+i<hi)(h2:hi<=a.size):at_ (a.extract lo hi) i=at_ a (lo+i):=by
 simp only[at_,_a8];rw[_cc,_g (by omega)]
theorem z8B{v:Keyed}(h:v∈a.toList):∃j,j<a.size/\v=at_ a j:=by
 obtain⟨j,hj,e⟩:=_Y.mp h;have hj':j<a.size:=by simpa using hj
 exact⟨j,hj',by simp[at_,hj',<- e]⟩
noncomputable def write(a r:Array Keyed)(sa:Nat):Array Keyed:=r.toList.zipIdx.foldl (λa p=>a.setIfInBounds (sa+p.2) p.1) a
theorem z39:∀(l:List Keyed)(k sa:Nat)(a:Array Keyed),((l.zipIdx k).foldl (λa p=>a.setIfInBounds (sa+p.2) p.1) a).size=a.size/\∀i,((l.zipIdx k).foldl (λa p=>a.setIfInBounds (sa+p.2) p.1) a)[i]? = if sa+k<=i/\i<sa+k+l.length/\i<a.size then l[i-(sa+k)]? else a[i]?
 | [],k,sa,a=>⟨rfl,λi=>by rw[_j (by simp;omega)];rfl⟩ | v::l,k,sa,a=>by
  obtain⟨h1,h2⟩:=z39 l (k+1) sa (a.setIfInBounds (sa+k) v);rw[_dq,_a5];refine⟨h1.trans (by simp),λi=>(h2 i).trans ?_⟩;rw[Array.size_setIfInBounds,_s];by_cases e:i=sa+k
  ·subst e;rw[_j (by omega)];by_cases q:sa+k<a.size;·rw[_g (by omega),Array.getElem?_setIfInBounds_self_of_lt q];simp
   ·rw[_j (by omega)];simp[q]
  ·rw[Array.getElem?_setIfInBounds_ne (by omega)];by_cases q:sa+(k+1)<=i/\i<sa+(k+1)+l.length/\i<a.size;·rw[_g q,_g (by omega),show i-(sa+k)=(i-(sa+(k+1)))+1 by omega,_aK]
   ·rw[_j q,_j (by omega)]
theorem z68{sa:Nat}(h:sa+r.size<=a.size):(write a r sa).toList=a.toList.take sa++r.toList++a.toList.drop (sa+r.size):=by
 obtain⟨h1,h2⟩:=z39 r.toList 0 sa a;apply List.ext_getElem?;intro i;have e:(write a r sa).toList[i]? = (write a r sa)[i]? := by simp
 rw[e];refine (h2 i).trans ?_;simp only[_V,_cd];by_cases q1:i<sa;·rw[_j (by omega),_T,_u (by simp;omega),List.getElem?_take,_g q1];simp
 ·by_cases q2:i<sa+r.size;·rw[_g (by omega),_T,_Q (by simp;omega),_ae,_V,Nat.min_eq_left (by omega),_u (by simp;omega)]
  ·rw[_j (by omega),_Q (by simp;omega),List.getElem?_drop];simp only[_H,_ae,_V];rw[show sa+r.size+(i-(min sa a.size+r.size))=i by omega];simp
theorem za2{sa i:Nat}(h:sa+r.size<=a.size):at_ (write a r sa) i=if sa<=i/\i<sa+r.size then at_ r (i-sa) else at_ a i:=by
 obtain⟨h1,h2⟩:=z39 r.toList 0 sa a;simp only[at_,_a8];have:=h2 i;simp only[_V,_cd]at this;rw[show (write a r sa)[i]? = _ from this];by_cases q:sa<=i/\i<sa+r.size;·rw[_g (by omega),_g q];simp
 ·rw[_j (by omega),_j q]
theorem zeJ(h:r.toList.Pairwise λx y=>rk x<=rk y):Srt rk r:=λi j hij hj=>by
 rcases Nat.lt_or_ge i j with q | q
 ·have:=List.pairwise_iff_getElem.mp h i j (by simp;omega) (by simpa using hj) q;simpa[at_,hj,show i<r.size by omega] using this
 ·rw[show i=j by omega];exact _f _
end
section
variable {prog:Program}{w:World}{A:Around}{E:Value->Shared->Prop}{s:Shared}{κ:SortKind}{a₀:Array Keyed}{rk:Keyed->Nat}(V:Env prog w A s κ (· ∈ a₀.toList) rk) {st:SortSt}
structure SB(κ:SortKind)(a₀:Array Keyed)(st:SortSt):Prop where
 perm:(arrOf st).Perm a₀
 kind:kindOf st=κ
 failed:failedOf st=none
theorem SB.size(h:SB κ a₀ st):(arrOf st).size=a₀.size:=h.perm.size_eq
theorem SB.mem(h:SB κ a₀ st):∀i,i<(arrOf st).size->at_ (arrOf st) i∈a₀.toList:=λi hi=>by
 have:at_ (arrOf st) i∈(arrOf st).toList:=by simp[at_,hi]
 exact (_bF.mp h.perm).mem_iff.mp this
include V
theorem z6l {i sa na p sb nb p':Nat} {Q:Bool->SortSt->Prop} (B:SB κ a₀ st) (h1:(pendingOf st)[i]? = some (sa,na,p)) (h2:(pendingOf st)[i+1]? = some (sb,nb,p')) (eb:sb=sa+na) (pa:1<=na) (pb:1<=nb) (hz:sb+nb<=a₀.size) (s1:wE rk (arrOf st) sa (sa+na)) (s2:wE rk (arrOf st) sb (sb+nb)) (h:∀st',SB κ a₀ st'->pendingOf st'=((pendingOf st).setIfInBounds i (sa,na+nb,p)).eraseIdxIfInBounds (i+1)->zh1 (arrOf st) (arrOf st') sa (sa+(na+nb))->wE rk (arrOf st') sa (sa+(na+nb))->Q true st'):wpS (model prog w) A E s (mergeAt' i) Q st:=by
 have sz:=B.size;have mem:=B.mem;have nf:=B.failed;refine _i (_cb ?_);show wpS _ _ _ _ (match ((pendingOf st)[i]?,(pendingOf st)[i+1]?) with | (some (sa,na,power),some (sb,nb,_))=>_ | _=>_) _ _;rw[h1,h2];dsimp only;refine _i (_aW (f:=λ_=>setPending st (((pendingOf st).setIfInBounds i (sa,na+nb,p)).eraseIdxIfInBounds (i+1))) ?_);have B1:SB κ a₀ (setPending st (((pendingOf st).setIfInBounds i (sa,na+nb,p)).eraseIdxIfInBounds (i+1))):=⟨B.perm,B.kind,B.failed⟩;have a1:arrOf (setPending st (((pendingOf st).setIfInBounds i (sa,na+nb,p)).eraseIdxIfInBounds (i+1)))=arrOf st:=rfl;have p1:pendingOf (setPending st (((pendingOf st).setIfInBounds i (sa,na+nb,p)).eraseIdxIfInBounds (i+1)))=((pendingOf st).setIfInBounds i (sa,na+nb,p)).eraseIdxIfInBounds (i+1):=rfl;generalize setPending st (((pendingOf st).setIfInBounds i (sa,na+nb,p)).eraseIdxIfInBounds (i+1))=st1 at B1 a1 p1;refine _i (yc (arr:=arrOf st) (by omega) (_i (ua V (arr:=arrOf st) B1.kind mem (mem _ (by omega)) (by omega) (by omega) (λi j hij hj=>?_) λk hk f1 f2=>?_)))
 ·simp only[bey,_B,_ab,_aP,_ad];have:=s1 (sa+i) (sa+j) (by omega) (by omega) (by omega);omega
 simp only[bey,_B,_ab,_aP,_ad,_c5,_m]at f1 f2;dsimp only;by_cases q:na-k=0
 ·rw[_g (by simpa using q)];refine _q (h _ B1 p1 (λi _=>by rw[a1]) λi j hi hij hj=>?_);rw[a1];by_cases c1:j<sb;·exact s1 i j hi hij (by omega)
  ·by_cases c2:sb<=i;·exact s2 i j c2 hij (by omega)
   ·have e1:=f1 (i-sa) (by omega);rw[show sa+(i-sa)=i by omega]at e1;have e2:=s2 sb j (_f _) (by omega) (by omega);omega
 rw[_j (by simpa using q)];refine _i (yc (arr:=arrOf st) (by omega) (_i (ua V (arr:=arrOf st) B1.kind mem (mem _ (by omega)) (by omega) (by omega) (λi j hij hj=>?_) λm hm g1 g2=>?_)))
 ·simp only[bey,_N,_m];have:=s2 (sb+i) (sb+j) (by omega) (by omega) (by omega);omega
 simp only[bey,_N,_m,_ad]at g1 g2;dsimp only;have f0:=f2 k (_f _) (by omega);have m1:1<=m:=by
  rcases _c6 m with z | z
  ·have e1:=g2 0 (by omega) (by omega);rw[_cd]at e1;have:=s1 (sa+k) (sa+k+(na-k)-1) (by omega) (by omega) (by omega);omega
  ·exact z
 rw[_j (by simp;omega)];have xs:((arrOf st).extract (sa+k) sb).size=na-k:=by rw[_c4];omega
 have ys:((arrOf st).extract sb (sb+m)).size=m:=by rw[_c4];omega
 have xa:∀i,i<na-k->at_ ((arrOf st).extract (sa+k) sb) i=at_ (arrOf st) (sa+k+i):=λi hi=>zb9 (by omega) (by omega);have ya:∀i,i<m->at_ ((arrOf st).extract sb (sb+m)) i=at_ (arrOf st) (sb+i):=λi hi=>zb9 (by omega) (by omega);have fin:∀r st',z2m st1 st'->Mrg rk ((arrOf st).extract (sa+k) sb) ((arrOf st).extract sb (sb+m)) r->wpS (model prog w) A E s (do
   modify λs=>setArr s (write (arrOf s) r (sa+k)) return (failedOf (<- get)).isNone) Q st':=λr st' lk mg=>by
  have al:arrOf st'=arrOf st:=lk.2.1.trans a1;have rs:r.size=na-k+m:=by
   have:=mg.1.length_eq;simp only[_H,_V]at this;omega
  have hw:sa+k+r.size<=(arrOf st).size:=by omega
  refine _i (_aW (_i (_cb ?_)));have B2:SB κ a₀ (setArr st' (write (arrOf st') r (sa+k))):=by
   refine⟨?_,lk.1.trans B1.kind,lk.2.2.2.trans B1.failed⟩;show (write (arrOf st') r (sa+k)).Perm a₀;rw[al];refine Array.Perm.trans (_bF.mpr ?_) B.perm;rw[z68 hw];have e1:(arrOf st).toList=(arrOf st).toList.take (sa+k)++((arrOf st).extract (sa+k) sb).toList++((arrOf st).extract sb (sb+m)).toList++(arrOf st).toList.drop (sa+k+r.size):=by
    simp only[Array.toList_extract,List.extract_eq_take_drop];have:=_aD (sa+k) (arrOf st).toList;have d1:=_aD (sb-(sa+k)) ((arrOf st).toList.drop (sa+k));have d2:=_aD (sb+m-sb) ((arrOf st).toList.drop sb);rw[List.drop_drop,show sa+k+(sb-(sa+k))=sb by omega]at d1;rw[List.drop_drop,show sb+(sb+m-sb)=sa+k+r.size by omega]at d2;rw[_T,_T,d2,d1,this]
   conv=>rhs;rw[e1]
   rw[_T,_T,_T];refine List.Perm.append_left _ ?_;rw[<- _T];exact mg.1.append_right _
  have sr:=zeJ mg.2;have wa:∀i,at_ (arrOf (setArr st' (write (arrOf st') r (sa+k)))) i=if sa+k<=i/\i<sa+k+r.size then at_ r (i-(sa+k)) else at_ (arrOf st) i:=λi=>by
   show at_ (write (arrOf st') r (sa+k)) i=_;rw[al];exact za2 hw
  have rm:∀i,i<r.size->(∃j,sa+k<=j/\j<sb/\at_ r i=at_ (arrOf st) j)\/∃j,sb<=j/\j<sb+m/\at_ r i=at_ (arrOf st) j:=λi hi=>by
   have:at_ r i∈r.toList:=by simp[at_,hi]
   rcases _E.mp (mg.1.mem_iff.mp this) with z | z
   ·obtain⟨j,hj,e⟩:=z8B z;exact .inl ⟨sa+k+j,by omega,by omega,by rw[e,xa j (by omega)]⟩
   ·obtain⟨j,hj,e⟩:=z8B z;exact .inr ⟨sb+j,by omega,by omega,by rw[e,ya j (by omega)]⟩
  rw[show (failedOf (setArr st' (write (arrOf st') r (sa+k)))).isNone=true by rw[B2.failed];rfl];refine _q (h _ B2 (lk.2.2.1.trans p1) (λi hi=>?_) λi j hi hij hj=>?_);·rw[wa,_j (by omega)]
  ·-- lo part<=b0<merged;merged<last a<=hi part
   have lowM:∀i,sa<=i->i<sa+k->∀j,j<r.size->rk (at_ (arrOf st) i)<=rk (at_ r j):=λi i1 i2 j hj=>by
    have e1:=f1 (i-sa) (by omega);rw[show sa+(i-sa)=i by omega]at e1;rcases rm j hj with⟨j',j1,j2,e⟩ | ⟨j',j1,j2,e⟩;·rw[e];exact s1 i j' i1 (by omega) (by omega)
    ·rw[e];have:=s2 sb j' (_f _) j1 (by omega);omega
   have hiM:∀j,sb+m<=j->j<sb+nb->∀i,i<r.size->rk (at_ r i)<=rk (at_ (arrOf st) j):=λj j1 j2 i hi=>by
    have e1:=g2 (j-sb) (by omega) (by omega);rw[show sb+(j-sb)=j by omega]at e1;rcases rm i hi with⟨i',i1,i2,e⟩ | ⟨i',i1,i2,e⟩
    ·rw[e];have:=s1 i' (sa+k+(na-k)-1) (by omega) (by omega) (by omega);omega
    ·rw[e];exact s2 i' j i1 (by omega) j2
   rw[wa,wa];by_cases c1:sa+k<=i/\i<sa+k+r.size
   ·rw[_g c1];by_cases c2:sa+k<=j/\j<sa+k+r.size;·rw[_g c2];exact sr _ _ (by omega) (by omega)
    ·rw[_j c2];exact hiM j (by omega) (by omega) _ (by omega)
   ·rw[_j c1];by_cases c2:sa+k<=j/\j<sa+k+r.size
    ·rw[_g c2];exact lowM i hi (by omega) _ (by omega)
    ·rw[_j c2];by_cases c3:sb<=i;·exact s2 i j c3 hij (by omega)
     ·by_cases c4:j<sb;·exact s1 i j hi hij (by omega)
      ·have z1:=lowM i hi (by omega) 0 (by omega);have z2:=hiM j (by omega) (by omega) 0 (by omega);omega
 have args:(∀i,i<((arrOf st).extract (sa+k) sb).size->at_ ((arrOf st).extract (sa+k) sb) i∈a₀.toList)/\(∀i,i<((arrOf st).extract sb (sb+m)).size->at_ ((arrOf st).extract sb (sb+m)) i∈a₀.toList)/\Srt rk ((arrOf st).extract (sa+k) sb)/\Srt rk ((arrOf st).extract sb (sb+m)):=by
  refine⟨λi hi=>?_,λi hi=>?_,λi j hij hj=>?_,λi j hij hj=>?_⟩;·rw[xa i (by omega)];exact mem _ (by omega)
  ·rw[ya i (by omega)];exact mem _ (by omega)
  ·rw[xa i (by omega),xa j (by omega)];exact s1 _ _ (by omega) (by omega) (by omega)
  ·rw[ya i (by omega),ya j (by omega)];exact s2 _ _ (by omega) (by omega) (by omega)
 obtain⟨Px,Py,sx,sy⟩:=args;have fst_:rk (at_ ((arrOf st).extract sb (sb+m)) 0)<rk (at_ ((arrOf st).extract (sa+k) sb) 0):=by rw[xa 0 (by omega),ya 0 (by omega),_cd,_cd];exact f0
 have lst_:rk (at_ ((arrOf st).extract sb (sb+m)) (((arrOf st).extract sb (sb+m)).size-1))<rk (at_ ((arrOf st).extract (sa+k) sb) (((arrOf st).extract (sa+k) sb).size-1)):=by
  rw[xs,ys,xa _ (by omega),ya _ (by omega),show sa+k+(na-k-1)=sa+k+(na-k)-1 by omega];exact g1 (m-1) (by omega)
 refine yK (λ_=>?_) λ_=>?_;·exact _i (z6Z V (a:=(arrOf st).extract (sa+k) sb) (b:=(arrOf st).extract sb (sb+m)) B1.kind Px Py sx sy (by omega) (by omega) fst_ lst_ fin)
 ·exact _i (z6c V (a:=(arrOf st).extract (sa+k) sb) (b:=(arrOf st).extract sb (sb+m)) B1.kind Px Py sx sy (by omega) (by omega) fst_ lst_ fin)
end
noncomputable def zh2(lo a nrem:Nat):StateT SortSt Sem (Option (Option Nat)×Nat):= forIn [a:nrem] ((none,a):Option (Option Nat)×Nat) λ_ c=>do match <- ltAt' (lo+c.2) (lo+c.2-1) with
  | some less=>if less=true then pure (.done (none,c.2)) else pure (.yield (none,c.2+1)) | _=>pure (.done (some none,c.2))
noncomputable def zgM(lo n nrem:Nat):StateT SortSt Sem (Option (Option Nat)×Nat×Nat):= forIn [n:nrem] ((none,n,0):Option (Option Nat)×Nat×Nat) λ_ c=>do match <- ltAt' (lo+c.2.1) (lo+c.2.1-1) with
  | some less=>
   if less=true then
    if c.2.2 > 0 then do
     reverseSlice' (lo+c.2.1-(c.2.2+1)) (lo+c.2.1)
     pure (.yield (none,c.2.1+1,0)) else pure (.yield (none,c.2.1+1,0)) else do match <- ltAt' (lo+c.2.1-1) (lo+c.2.1) with
    | some more=>if more=true then pure (.done (none,c.2.1,c.2.2)) else pure (.yield (none,c.2.1+1,c.2.2+1)) | _=>pure (.done (some none,c.2.1,c.2.2))
  | _=>pure (.done (some none,c.2.1,c.2.2))
section
variable {rk:Keyed->Nat}{a:Array Keyed}
theorem qN{i j:Nat}(hj:j<=a.size)(k:Nat):at_ (mirror a i j ((j-i) / 2)) k=if i<=k/\k<j then at_ a (i+j-1-k) else at_ a k:=by
 simp only[at_,_a8];rw[getElem?_mirror_all hj];split<;>rfl
theorem js{i j:Nat}(hj:j<=a.size)(he:∀k,i<=k->k<j->rk (at_ a k)=rk (at_ a (j-1)))(k:Nat):rk (at_ (mirror a i j ((j-i) / 2)) k)=rk (at_ a k):=by
 rw[qN hj];split;·rw[he _ (by omega) (by omega),he k (by omega) (by omega)]
 ·rfl
def Dsc(rk:Keyed->Nat)(a:Array Keyed)(lo hi:Nat):Prop:=∀i j,lo<=i->i<=j->j<hi->rk (at_ a j)<=rk (at_ a i)
theorem Dsc.more{lo x:Nat}(h:Dsc rk a lo (lo+x))(hx:1<=x)(e:rk (at_ a (lo+x))<=rk (at_ a (lo+x-1))):Dsc rk a lo (lo+(x+1)):=λi j hi hij hj=>by
 by_cases q:j<lo+x;·exact h i j hi hij q
 ·have:j=lo+x:=by omega
  subst this;by_cases q2:i=lo+x;·rw[q2];exact _f _
  ·have:=h i (lo+x-1) hi (by omega) (by omega);omega
theorem wE.more{lo x:Nat}(h:wE rk a lo (lo+x))(hx:1<=x)(e:rk (at_ a (lo+x-1))<=rk (at_ a (lo+x))):wE rk a lo (lo+(x+1)):=λi j hi hij hj=>by
 by_cases q:j<lo+x;·exact h i j hi hij q
 ·have:j=lo+x:=by omega
  subst this;by_cases q2:i=lo+x;·rw[q2];exact _f _
  ·have:=h i (lo+x-1) hi (by omega) (by omega);omega
end
section
variable {prog:Program}{w:World}{A:Around}{E:Value->Shared->Prop}{s:Shared}{κ:SortKind}{a₀:Array Keyed}{rk:Keyed->Nat}(V:Env prog w A s κ (· ∈ a₀.toList) rk) {st:SortSt}{lo nrem:Nat}
theorem SB.set(h:SB κ a₀ st){xs:Array Keyed}(hp:xs.Perm (arrOf st)):SB κ a₀ (setArr st xs):=⟨hp.trans h.perm,h.kind,h.failed⟩
theorem kz{i j:Nat}{Q:Unit->SortSt->Prop}(h:Q () (setArr st (mirror (arrOf st) i j ((j-i) / 2)))):wpS (model prog w) A E s (reverseSlice' i j) Q st:=by rw[reverseSlice'_eq];exact _aW h
def z1E(lo:Nat)(st st':SortSt):Prop:=(∀i,i<lo->at_ (arrOf st') i=at_ (arrOf st) i)/\pendingOf st'=pendingOf st
theorem z1E.refl:z1E lo st st:=⟨λ_ _=>rfl,rfl⟩
theorem z1E.mir{st':SortSt}(h:z1E lo st st'){i j:Nat}(hi:lo<=i)(hj:j<=(arrOf st').size):z1E lo st (setArr st' (mirror (arrOf st') i j ((j-i) / 2))):= ⟨λk hk=>by rw[show arrOf (setArr st' (mirror (arrOf st') i j ((j-i) / 2)))=mirror (arrOf st') i j ((j-i) / 2) from rfl,qN hj,_j (by omega)];exact h.1 k hk,h.2⟩
include V
theorem z0y{i j:Nat}{Q:Option Bool->SortSt->Prop}(B:SB κ a₀ st)(hi:i<a₀.size)(hj:j<a₀.size)(h:Q (some (decide (rk (at_ (arrOf st) i)<rk (at_ (arrOf st) j)))) st):wpS (model prog w) A E s (ltAt' i j) Q st:=by
 have sz:=B.size;rw[ltAt'_eq];refine _i (_cb ?_);exact _i (yc (arr:=arrOf st) (by omega) (_i (yc (arr:=arrOf st) (by omega) (z8I V B.kind (B.mem _ (by omega)) (B.mem _ (by omega)) h))))
theorem z4i{a:Nat}{Q:Option (Option Nat)×Nat->SortSt->Prop}(hn:lo+nrem<=a₀.size)(ha:1<=a)(han:a<=nrem)(B:SB κ a₀ st)(hs:wE rk (arrOf st) lo (lo+a)) (h:∀n,a<=n->n<=nrem->wE rk (arrOf st) lo (lo+n)->(n=nrem\/rk (at_ (arrOf st) (lo+n))<rk (at_ (arrOf st) (lo+n-1)))->Q (none,n) st):wpS (model prog w) A E s (zh2 lo a nrem) Q st:=by
 unfold zh2;refine _aJ (I:=λx c st'=>st'=st/\c=(none,x)/\wE rk (arrOf st) lo (lo+x)) ?_ ?_ ⟨rfl,rfl,hs⟩
 ·rintro x c st' h1 h2 ⟨rfl,rfl,hs'⟩;refine _i (z0y V B (by omega) (by omega) ?_);refine yK (λq=>?_) λq=>?_;·exact _q (h x h1 (by omega) hs' (.inr (by simpa using q)))
  ·simp only[_m]at q;exact _q ⟨rfl,rfl,hs'.more (by omega) (by omega)⟩
 ·rintro c st' ⟨rfl,rfl,hs'⟩;rw[show max a nrem=nrem by omega]at hs' ⊢;exact h nrem han (_f _) hs' (.inl rfl)
theorem zb1{n:Nat}{Q:Option (Option Nat)×Nat×Nat->SortSt->Prop}{st0:SortSt}(hn:lo+nrem<=a₀.size)(ha:1<=n)(han:n<=nrem)(B:SB κ a₀ st)(kp:z1E lo st0 st)(hs:Dsc rk (arrOf st) lo (lo+n)) (h:∀m q st',SB κ a₀ st'->z1E lo st0 st'->n<=m->m<=nrem->Dsc rk (arrOf st') lo (lo+m)->q+1<=m->(∀i,lo+m-(q+1)<=i->i<lo+m->rk (at_ (arrOf st') i)=rk (at_ (arrOf st') (lo+m-1)))->Q (none,m,q) st'):wpS (model prog w) A E s (zgM lo n nrem) Q st:=by
 unfold zgM;refine _aJ (I:=λx c st'=>∃q,c=(none,x,q)/\SB κ a₀ st'/\z1E lo st0 st'/\Dsc rk (arrOf st') lo (lo+x)/\q+1<=x/\∀i,lo+x-(q+1)<=i->i<lo+x->rk (at_ (arrOf st') i)=rk (at_ (arrOf st') (lo+x-1))) ?_ ?_ ⟨0,rfl,B,kp,hs,by omega,λi h1 h2=>by congr 2;omega⟩
 ·rintro x c st' h1 h2 ⟨q,rfl,B',kp',ds,qx,eq⟩;have sz:=B'.size;dsimp only;refine _i (z0y V B' (by omega) (by omega) ?_);dsimp only;refine yK (λc1=>?_) λc1=>?_
  ·simp only[_m]at c1;refine yK (λc2=>?_) λc2=>?_
   ·have me:∀k,rk (at_ (mirror (arrOf st') (lo+x-(q+1)) (lo+x) ((lo+x-(lo+x-(q+1))) / 2)) k)=rk (at_ (arrOf st') k):=js (by omega) eq;refine _i (kz (_q ⟨0,rfl,B'.set (_bG _ _ _ _),kp'.mir (by omega) (by omega),Dsc.more (λi j hi hij hj=>?_) (by omega) ?_,by omega,λi h1 h2=>by congr 2;omega⟩))
    ·show rk (at_ (mirror _ _ _ _) j)<=rk (at_ (mirror _ _ _ _) i);rw[me,me];exact ds i j hi hij hj
    ·show rk (at_ (mirror _ _ _ _) _)<=rk (at_ (mirror _ _ _ _) _);rw[me,me];omega
   ·exact _q ⟨0,rfl,B',kp',ds.more (by omega) (by omega),by omega,λi h1 h2=>by congr 2;omega⟩
  ·simp only[_m]at c1;refine _i (z0y V B' (by omega) (by omega) ?_);dsimp only;refine yK (λc2=>?_) λc2=>?_;·exact _q (h x q st' B' kp' h1 (by omega) ds qx eq)
   ·simp only[_m]at c2;have e0:rk (at_ (arrOf st') (lo+x))=rk (at_ (arrOf st') (lo+x-1)):=by omega
    refine _q ⟨q+1,rfl,B',kp',ds.more (by omega) (by omega),by omega,λi h1 h2=>?_⟩;rw[show lo+(x+1)-1=lo+x by omega];by_cases z:i=lo+x;·rw[z]
    ·rw[e0];exact eq i (by omega) (by omega)
 ·rintro c st' ⟨q,rfl,B',kp',ds,qx,eq⟩;rw[show max n nrem=nrem by omega]at ds qx eq ⊢;exact h nrem q st' B' kp' han (_f _) ds qx eq
theorem z9L {Q:Option Nat->SortSt->Prop} (hn:lo+nrem<=a₀.size) (h1:1<=nrem) (B:SB κ a₀ st) (h:∀m st',SB κ a₀ st'->z1E lo st st'->1<=m->m<=nrem->wE rk (arrOf st') lo (lo+m)->Q (some m) st'):wpS (model prog w) A E s (countRun' lo nrem) Q st:=by
 have sz:=B.size;refine _i (z4i V hn (_f 1) h1 B (λi j hi hij hj=>by rw[show i=j by omega];exact _f _) λn n1 n2 sn or=>?_);dsimp only;by_cases e:n=nrem
 ·rw[_g (by simpa using e)];exact _q (h n st B .refl n1 n2 sn)
 rw[_j (by simpa using e)];have lt:=or.resolve_left e;refine yK (λc=>?_) λc=>?_
 ·refine _i (z0y V B (by omega) (by omega) ?_);dsimp only;refine yK (λc2=>?_) λc2=>?_;·exact _q (h n st B .refl n1 n2 sn)
  ·simp only[_m]at c2;have all:∀k,lo<=k->k<lo+n->rk (at_ (arrOf st) k)=rk (at_ (arrOf st) (lo+n-1)):=λk z1 z2=>by
    have a1:=sn lo k (_f _) z1 z2;have a2:=sn k (lo+n-1) z1 (by omega) (by omega);omega
   refine _i (kz ?_);have B1:=SB.set B (_bG _ lo (lo+n) ((lo+n-lo) / 2));have k1:=z1E.mir (z1E.refl (lo:=lo) (st:=st)) (i:=lo) (j:=lo+n) (_f _) (by omega);have d1:Dsc rk (arrOf (setArr st (mirror (arrOf st) lo (lo+n) ((lo+n-lo) / 2)))) lo (lo+(n+1)):=by
    refine Dsc.more (λi j hi hij hj=>?_) n1 ?_
    ·show rk (at_ (mirror _ _ _ _) j)<=rk (at_ (mirror _ _ _ _) i);rw[js (rk:=rk) (by omega) all,js (rk:=rk) (by omega) all,all i hi (by omega),all j (by omega) hj];exact _f _
    ·show rk (at_ (mirror _ _ _ _) _)<=rk (at_ (mirror _ _ _ _) _);rw[js (rk:=rk) (by omega) all,js (rk:=rk) (by omega) all];omega
   refine _i (_c3 (_at ⟨rfl,?_⟩));refine _i (zb1 V hn (by omega) (by omega) B1 k1 d1 λm q st2 B2 k2 m1 m2 ds2 q1 eq=>?_);have sz2:=B2.size;dsimp only;refine yK (λc=>?_) λc=>?_
   ·refine _i (kz ?_);have Bm:=SB.set B2 (_bG _ (lo+m-(q+1)) (lo+m) ((lo+m-(lo+m-(q+1))) / 2));have km:=z1E.mir k2 (i:=lo+m-(q+1)) (j:=lo+m) (by omega) (by omega);have dm:Dsc rk (mirror (arrOf st2) (lo+m-(q+1)) (lo+m) ((lo+m-(lo+m-(q+1))) / 2)) lo (lo+m):=λi j hi hij hj=>by
     rw[js (rk:=rk) (by omega) eq,js (rk:=rk) (by omega) eq];exact ds2 i j hi hij hj
    generalize mirror (arrOf st2) (lo+m-(q+1)) (lo+m) ((lo+m-(lo+m-(q+1))) / 2)=am at Bm km dm;have szm:(arrOf (setArr st2 am)).size=a₀.size:=Bm.size;refine _i (kz ?_);have B3:=SB.set Bm (_bG _ lo (lo+m) ((lo+m-lo) / 2));have k3:=z1E.mir km (i:=lo) (j:=lo+m) (_f _) (by omega);refine _i (z4i V hn (by omega) m2 B3 (λi j hi hij hj=>?_) λm' m1' m2' sm _=>_q (h m' _ B3 k3 (by omega) m2' sm));show rk (at_ (mirror _ _ _ _) i)<=rk (at_ (mirror _ _ _ _) j);rw[qN (by omega),qN (by omega),_g (by omega),_g (by omega)];exact dm _ _ (by omega) (by omega) (by omega)
   ·refine _i (kz ?_);have B3:=SB.set B2 (_bG _ lo (lo+m) ((lo+m-lo) / 2));have k3:=z1E.mir k2 (i:=lo) (j:=lo+m) (_f _) (by omega);refine _i (z4i V hn (by omega) m2 B3 (λi j hi hij hj=>?_) λm' m1' m2' sm _=>_q (h m' _ B3 k3 (by omega) m2' sm));show rk (at_ (mirror _ _ _ _) i)<=rk (at_ (mirror _ _ _ _) j);rw[qN (by omega),qN (by omega),_g (by omega),_g (by omega)];exact ds2 _ _ (by omega) (by omega) (by omega)
 ·have n1':n=1:=by omega
  subst n1';have B1:=B;have k1:=z1E.refl (lo:=lo) (st:=st);have d1:Dsc rk (arrOf st) lo (lo+(1+1)):=Dsc.more (λi j hi hij hj=>by rw[show i=j by omega];exact _f _) (_f _) (by omega);refine _i (_c3 (_at ⟨rfl,?_⟩));refine _i (zb1 V hn (by omega) (by omega) B1 k1 d1 λm q st2 B2 k2 m1 m2 ds2 q1 eq=>?_);have sz2:=B2.size;dsimp only;refine yK (λc=>?_) λc=>?_
  ·refine _i (kz ?_);have Bm:=SB.set B2 (_bG _ (lo+m-(q+1)) (lo+m) ((lo+m-(lo+m-(q+1))) / 2));have km:=z1E.mir k2 (i:=lo+m-(q+1)) (j:=lo+m) (by omega) (by omega);have dm:Dsc rk (mirror (arrOf st2) (lo+m-(q+1)) (lo+m) ((lo+m-(lo+m-(q+1))) / 2)) lo (lo+m):=λi j hi hij hj=>by
    rw[js (rk:=rk) (by omega) eq,js (rk:=rk) (by omega) eq];exact ds2 i j hi hij hj
   generalize mirror (arrOf st2) (lo+m-(q+1)) (lo+m) ((lo+m-(lo+m-(q+1))) / 2)=am at Bm km dm;have szm:(arrOf (setArr st2 am)).size=a₀.size:=Bm.size;refine _i (kz ?_);have B3:=SB.set Bm (_bG _ lo (lo+m) ((lo+m-lo) / 2));have k3:=z1E.mir km (i:=lo) (j:=lo+m) (_f _) (by omega);refine _i (z4i V hn (by omega) m2 B3 (λi j hi hij hj=>?_) λm' m1' m2' sm _=>_q (h m' _ B3 k3 (by omega) m2' sm));show rk (at_ (mirror _ _ _ _) i)<=rk (at_ (mirror _ _ _ _) j);rw[qN (by omega),qN (by omega),_g (by omega),_g (by omega)];exact dm _ _ (by omega) (by omega) (by omega)
  ·refine _i (kz ?_);have B3:=SB.set B2 (_bG _ lo (lo+m) ((lo+m-lo) / 2));have k3:=z1E.mir k2 (i:=lo) (j:=lo+m) (_f _) (by omega);refine _i (z4i V hn (by omega) m2 B3 (λi j hi hij hj=>?_) λm' m1' m2' sm _=>_q (h m' _ B3 k3 (by omega) m2' sm));show rk (at_ (mirror _ _ _ _) i)<=rk (at_ (mirror _ _ _ _) j);rw[qN (by omega),qN (by omega),_g (by omega),_g (by omega)];exact ds2 _ _ (by omega) (by omega) (by omega)
end
theorem zd1(c:Prop) [Decidable c](x:Nat):(if c then x-1 else x)<=x:=by split<;>omega
abbrev Run:=Nat×Nat×Nat
section
variable {rk:Keyed->Nat}{a b:Array Keyed}
theorem zfi{src d:Nat}(hs:src<a.size)(hd:d<=src)(k:Nat):at_ (bubble a src d) k=if k=src-d then at_ a src else if src-d<k/\k<=src then at_ a (k-1) else at_ a k:=by
 simp only[at_,_a8];rw[getElem?_bubble hs d hd];split;·rfl
 ·split<;>rfl
noncomputable def Chain(rk:Keyed->Nat)(a:Array Keyed):List Run->Nat->Nat->Prop
 | [],lo,hi=>lo=hi | (x,n,_)::t,lo,hi=>x=lo/\1<=n/\wE rk a x (x+n)/\Chain rk a t (x+n) hi
theorem Chain.len:∀{l:List Run}{lo hi:Nat},Chain rk a l lo hi->l.length+lo<=hi
 | [],_,_,h=>by simp only[Chain]at h;simp[h] | (x,n,_)::t,lo,hi,⟨h1,h2,_,h4⟩=>by have:=h4.len;simp only[_s];omega
theorem Chain.same:∀{l:List Run}{lo hi:Nat},(∀i,lo<=i->i<hi->at_ b i=at_ a i)->Chain rk a l lo hi->Chain rk b l lo hi
 | [],_,_,_,h=>h | (x,n,_)::t,lo,hi,e,⟨h1,h2,h3,h4⟩=>by
  have:=h4.len;exact⟨h1,h2,λi j hi hij hj=>by rw[e i (by omega) (by omega),e j (by omega) (by omega)];exact h3 i j hi hij hj,h4.same λi i1 i2=>e i (by omega) i2⟩
theorem Chain.push{n p lo:Nat}:∀{l:List Run}{st:Nat},Chain rk a l st lo->1<=n->wE rk a lo (lo+n)->Chain rk a (l++[(lo,n,p)]) st (lo+n)
 | [],st,h,h1,h2=>by
  have e:st=lo:=h;exact⟨e.symm,h1,h2,rfl⟩ | (x,m,_)::t,st,⟨g1,g2,g3,g4⟩,h1,h2=>⟨g1,g2,g3,g4.push h1 h2⟩
theorem Chain.modify{f:Run->Run}(hf:∀x,(f x).1=x.1/\(f x).2.1=x.2.1):∀{l:List Run}{k lo hi:Nat},Chain rk a l lo hi->Chain rk a (l.modify k f) lo hi
 | [],k,lo,hi,h=>by cases k<;>exact h | x::t,0,lo,hi,h=>by
  have e:=hf x;show Chain rk a (f x::t) lo hi;generalize f x=y at e;obtain⟨x1,x2,x3⟩:=x;obtain⟨y1,y2,y3⟩:=y;obtain⟨rfl,rfl⟩:=e;exact h | (x,n,p)::t,k+1,lo,hi,⟨g1,g2,g3,g4⟩=>⟨g1,g2,g3,g4.modify hf⟩
theorem Chain.two{sa na p sb nb p' hi:Nat}:∀{l:List Run}{i lo:Nat},Chain rk a l lo hi->l[i]? = some (sa,na,p)->l[i+1]? = some (sb,nb,p')->lo<=sa/\sb=sa+na/\1<=na/\1<=nb/\sb+nb<=hi/\wE rk a sa (sa+na)/\wE rk a sb (sb+nb)
 | x::[],i,lo,h,e1,e2=>by simp at e2 | x::y::t,0,lo,h,e1,e2=>by
  simp only[_av,_D]at e1;simp only[_aK,_av,_D]at e2;subst e1 e2;obtain⟨g1,g2,g3,h1,h2,h3,h4⟩:=h;have:=h4.len;exact⟨by omega,by omega,g2,h2,by omega,g3,h3⟩ | (x,n,p)::y::t,i+1,lo,⟨g1,g2,g3,g4⟩,e1,e2=>by
  simp only[_aK]at e1 e2;have:=g4.two (i:=i) e1 (by simpa using e2);exact⟨by omega,this.2⟩
theorem Chain.merge{sa na p sb nb p' hi:Nat}(S:zh1 a b sa (sa+(na+nb)))(s:wE rk b sa (sa+(na+nb))):∀{l:List Run}{i lo:Nat},Chain rk a l lo hi->l[i]? = some (sa,na,p)->l[i+1]? = some (sb,nb,p')->Chain rk b ((l.set i (sa,na+nb,p)).eraseIdx (i+1)) lo hi
 | x::[],i,lo,h,e1,e2=>by simp at e2 | x::y::t,0,lo,h,e1,e2=>by
  simp only[_av,_D]at e1;simp only[_aK,_av,_D]at e2;subst e1 e2;obtain⟨g1,g2,g3,h1,h2,h3,h4⟩:=h;show Chain rk b ((sa,na+nb,p)::t) lo hi;refine⟨g1,by omega,s,?_⟩;have h4':Chain rk a t (sa+(na+nb)) hi:=by rw[show sa+(na+nb)=sb+nb by omega];exact h4
  exact h4'.same λi i1 i2=>S i (.inr i1) | (x,n,q)::y::t,i+1,lo,⟨g1,g2,g3,g4⟩,e1,e2=>by
  simp only[_aK]at e1 e2;have e2':(y::t)[i+1]? = some (sb,nb,p'):=by simpa using e2
  have tw:=g4.two e1 e2';show Chain rk b ((x,n,q)::(((y::t).set i (sa,na+nb,p)).eraseIdx (i+1))) lo hi;exact⟨g1,g2,λi j hi hij hj=>by rw[S i (by omega),S j (by omega)];exact g3 i j hi hij hj,g4.merge S s e1 e2'⟩
end
section
variable {prog:Program}{w:World}{A:Around}{E:Value->Shared->Prop}{s:Shared}{κ:SortKind}{a₀:Array Keyed}{rk:Keyed->Nat}(V:Env prog w A s κ (· ∈ a₀.toList) rk) {st:SortSt}{lo nrem:Nat}
include V
theorem zeY{n ok:Nat}{Q:Bool->SortSt->Prop}(hn:lo+n<=a₀.size)(hok:ok<=n)(B:SB κ a₀ st)(hs:wE rk (arrOf st) lo (lo+ok))(h:∀st',SB κ a₀ st'->z1E lo st st'->wE rk (arrOf st') lo (lo+n)->Q true st'):wpS (model prog w) A E s (binarySort' lo n ok) Q st:=by
 refine _i (_bE (_aJ (I:=λk c st'=>c=(none,())/\SB κ a₀ st'/\z1E lo st st'/\wE rk (arrOf st') lo (lo+min k n)) (Q:=λc st'=>c=(none,())/\SB κ a₀ st'/\z1E lo st st'/\wE rk (arrOf st') lo (lo+n)) ?_ ?_ ?_) ?_)
 ·rintro k c st1 h1 h2 ⟨rfl,B1,k1,s1⟩;have sz:=B1.size;rw[show min k n=k by omega]at s1;refine _i (_bE (_aJ (I:=λx c st2=>st2=st1/\∃l r,c=(none,l,r)/\l<=r/\r<=k/\r-l<=k-x/\(∀i,lo<=i->i<lo+l->rk (at_ (arrOf st1) i)<=rk (at_ (arrOf st1) (lo+k)))/\(∀i,lo+r<=i->i<lo+k->rk (at_ (arrOf st1) (lo+k))<rk (at_ (arrOf st1) i))) (Q:=λc st2=>st2=st1/\∃l r,c=(none,l,r)/\l<=k/\(∀i,lo<=i->i<lo+l->rk (at_ (arrOf st1) i)<=rk (at_ (arrOf st1) (lo+k)))/\(∀i,lo+l<=i->i<lo+k->rk (at_ (arrOf st1) (lo+k))<rk (at_ (arrOf st1) i))) ?_ ?_ ⟨rfl,0,k,rfl,by omega,by omega,by omega,λi _ hi=>by omega,λi h1 h2=>by omega⟩) ?_)
  ·rintro x c st2 _ hx ⟨rfl,l,r,rfl,c1,c2,c3,c4,c5⟩;dsimp only;refine yK (λq=>?_) λq=>?_
   ·have:l=r:=by omega
    subst this;exact _q ⟨rfl,l,l,rfl,c2,c4,c5⟩
   ·refine _i (z0y V B1 (by omega) (by omega) ?_);dsimp only;refine yK (λq2=>?_) λq2=>?_
    ·simp only[_m]at q2;refine _q ⟨rfl,l,(l+r) / 2,rfl,by omega,by omega,by omega,c4,λi i1 i2=>?_⟩;have:=s1 (lo+(l+r) / 2) i (by omega) i1 i2;omega
    ·simp only[_m]at q2;refine _q ⟨rfl,(l+r) / 2+1,r,rfl,by omega,by omega,by omega,λi i0 i1=>?_,c5⟩;have:=s1 i (lo+(l+r) / 2) i0 (by omega) (by omega);omega
  ·rintro c st2 ⟨rfl,l,r,rfl,c1,c2,c3,c4,c5⟩;have:l=r:=by omega
   subst this;exact⟨rfl,l,l,rfl,c2,c4,c5⟩
  ·rintro c st2 ⟨rfl,l,r,rfl,c2,c4,c5⟩;have ab:∀i,at_ (bubble (arrOf st2) (lo+k) (lo+k-(lo+l))) i=if i=lo+l then at_ (arrOf st2) (lo+k) else if lo+l<i/\i<=lo+k then at_ (arrOf st2) (i-1) else at_ (arrOf st2) i:=λi=>by rw[zfi (by omega) (by omega),show lo+k-(lo+k-(lo+l))=lo+l by omega]
   refine _i (_aW (_q ⟨rfl,B1.set (bubble_perm _ _ _),⟨λi hi=>?_,k1.2⟩,?_⟩))
   ·show at_ (bubble (arrOf st2) (lo+k) (lo+k-(lo+l))) i=_;rw[ab,_j (by omega),_j (by omega)];exact k1.1 i hi
   ·rw[show min (k+1) n=k+1 by omega];intro i j i1 i2 i3;show rk (at_ (bubble (arrOf st2) (lo+k) (lo+k-(lo+l))) i)<=rk (at_ (bubble (arrOf st2) (lo+k) (lo+k-(lo+l))) j);rw[ab,ab];repeat' split
    all_goals first
     | (exfalso;omega) | exact _f _ | exact c4 _ (by omega) (by omega) | exact _az (c5 _ (by omega) (by omega)) | exact s1 _ _ (by omega) (by omega) (by omega)
 ·rintro c st1 ⟨hc,B1,k1,s1⟩;rw[show min (max (max ok 1) n) n=n by omega]at s1;exact⟨hc,B1,k1,s1⟩
 ·refine⟨rfl,B,.refl,λi j i1 i2 i3=>?_⟩;by_cases z:ok=0;·rw[show i=j by omega];exact _f _
  ·exact hs i j i1 i2 (by omega)
 ·rintro c st1 ⟨rfl,B1,k1,s1⟩;exact _q (h st1 B1 k1 s1)
theorem z0C{i hi:Nat}{Q:Bool->SortSt->Prop}(B:SB κ a₀ st)(c:Chain rk (arrOf st) (pendingOf st).toList 0 hi)(hz:hi<=a₀.size)(hi':i+1<(pendingOf st).size) (h:∀st',SB κ a₀ st'->Chain rk (arrOf st') (pendingOf st').toList 0 hi->(pendingOf st').size+1=(pendingOf st).size->(∀i,hi<=i->at_ (arrOf st') i=at_ (arrOf st) i)->Q true st'):wpS (model prog w) A E s (mergeAt' i) Q st:=by
 obtain⟨⟨sa,na,p⟩,e1⟩:∃x,(pendingOf st)[i]? = some x:=⟨_,_dC _ i (by omega)⟩;obtain⟨⟨sb,nb,p'⟩,e2⟩:∃x,(pendingOf st)[i+1]? = some x:=⟨_,_dC _ (i+1) hi'⟩;have l1:(pendingOf st).toList[i]? = some (sa,na,p):=by simpa using e1
 have l2:(pendingOf st).toList[i+1]? = some (sb,nb,p'):=by simpa using e2
 have tw:=c.two l1 l2;refine z6l V B e1 e2 tw.2.1 tw.2.2.1 tw.2.2.2.1 (by omega) tw.2.2.2.2.2.1 tw.2.2.2.2.2.2 λst' B' ep S s'=>h st' B' ?_ ?_ λi hi=>S i (by omega)
 ·rw[ep,_cg,Array.toList_setIfInBounds];exact c.merge S s' l1 l2
 ·have:=_ba (λa=>a.toList.length) ep;simp only[_cg,Array.toList_setIfInBounds,List.length_eraseIdx,List.length_set,_V]at this;rw[_g hi']at this;omega
theorem zcg{Q:Unit->SortSt->Prop}(B:SB κ a₀ st)(hp:pendingOf st=#[])(h:∀st',SB κ a₀ st'->wE rk (arrOf st') 0 a₀.size->Q () st'):wpS (model prog w) A E s sortRuns' Q st:=by
 have sz:=B.size;refine _i (_cb ?_);dsimp only;rw[show (arrOf st).size=a₀.size from sz];refine _i (_bE (_aJ (I:=λx c st'=>∃lo,c=(none,lo)/\SB κ a₀ st'/\lo<=a₀.size/\min x a₀.size<=lo/\Chain rk (arrOf st') (pendingOf st').toList 0 lo) (Q:=λc st'=>c=(none,a₀.size)/\SB κ a₀ st'/\Chain rk (arrOf st') (pendingOf st').toList 0 a₀.size) ?_ ?_ ⟨0,rfl,B,by omega,by omega,by rw[hp];exact rfl⟩) ?_)
 ·rintro x c st1 _ hx ⟨lo,rfl,B1,l1,l2,ch⟩;dsimp only;refine yK (λq=>?_) λq=>?_
  ·have:lo=a₀.size:=by omega
   subst this;exact _q ⟨rfl,B1,ch⟩
  refine _i (z9L V (by omega) (by omega) B1 λm st2 B2 k2 m1 m2 s2=>?_);dsimp only;have c2:Chain rk (arrOf st2) (pendingOf st2).toList 0 lo:=by
   rw[k2.2];exact ch.same λi _ hi=>k2.1 i hi
  refine yK (λq1=>?_) λq1=>?_
  ·refine _i (_c3 (_at ⟨rfl,?_⟩));refine _i (zeY V (n:=min (a₀.size-lo) _) (by omega) (by omega) B2 s2 λst3 B3 k3 s3=>?_);have n2:=Nat.min_le_left (a₀.size-lo) (minRun' a₀.size a₀.size 0);have n1:1<=min (a₀.size-lo) (minRun' a₀.size a₀.size 0):=by
    have:m<minRun' a₀.size a₀.size 0:=q1;omega
   have c3:Chain rk (arrOf st3) (pendingOf st3).toList 0 lo:=by
    rw[k3.2];exact c2.same λi _ hi=>k3.1 i hi
   rw[_j (by simp)];have en:∃n,n=min (a₀.size-lo) (minRun' a₀.size a₀.size 0):=⟨_,rfl⟩;obtain⟨n,en⟩:=en;rw[<- en]at n1 n2;have s3:wE rk (arrOf st3) lo (lo+n):=by rw[en];exact s3
   show wpS _ _ _ _ (get >>= _) _ _;refine _i (_cb ?_);cases e:(pendingOf st3).back? with
   | none=>
    dsimp only;refine _i (_aW (_q ⟨lo+n,by first | rfl | (rw[en];rfl),⟨B3.perm,B3.kind,B3.failed⟩,by omega,by omega,?_⟩));show Chain rk (arrOf st3) ((pendingOf st3).push (_,_,0)).toList 0 _;rw[_al];first | exact c3.push n1 s3 | (rw[en]at n1 s3 ⊢;exact c3.push n1 s3)
   | some y=>
    obtain⟨y1,y2,y3⟩:=y;dsimp only;refine _i (_bE (_aJ (I:=λx c st'=>c=(none,())/\SB κ a₀ st'/\Chain rk (arrOf st') (pendingOf st').toList 0 lo/\wE rk (arrOf st') lo (lo+n)) (Q:=λc st'=>c=(none,())/\SB κ a₀ st'/\Chain rk (arrOf st') (pendingOf st').toList 0 lo/\wE rk (arrOf st') lo (lo+n)) ?_ (λc st' z=>z) ⟨rfl,B3,c3,s3⟩) ?_)
    ·rintro x' c st4 _ hx' ⟨rfl,B4,c4,s4⟩;refine _i (_cb ?_);by_cases g:(pendingOf st4).size > 1
     ·rw[_g g];obtain⟨⟨z1,z2,z3⟩,ez⟩:∃x,(pendingOf st4)[(pendingOf st4).size-2]? = some x:=⟨_,_dC _ _ (by omega)⟩;rw[ez];dsimp only;refine yK (λ_=>_q ⟨rfl,B4,c4,s4⟩) λ_=>?_;refine _i (z0C V (i:=(pendingOf st4).size-2) B4 c4 l1 (by omega) λst5 B5 c5 _ fr=>?_);rw[_j (by simp)];exact _q ⟨rfl,B5,c5,λi j i1 i2 i3=>by rw[fr i i1,fr j (by omega)];exact s4 i j i1 i2 i3⟩
     ·rw[_j g];exact _q ⟨rfl,B4,c4,s4⟩
    ·rintro c st4 ⟨rfl,B4,c4,s4⟩;dsimp only;refine _i (_aW (_i (_aW (_q ⟨lo+n,by first | rfl | (rw[en];rfl),⟨B4.perm,B4.kind,B4.failed⟩,by omega,by omega,?_⟩))));show Chain rk (arrOf st4) (((pendingOf st4).modify _ _).push (_,_,0)).toList 0 _;rw[_al,Array.toList_modify];first | (refine Chain.push (Chain.modify ?_ c4) n1 s4;exact λx=>⟨rfl,rfl⟩) | (rw[en]at n1 s4 ⊢;refine Chain.push (Chain.modify ?_ c4) n1 s4;exact λx=>⟨rfl,rfl⟩)
  ·have n1:=m1;have n2:=m2;have c3:=c2;have B3:=B2;have s3:=s2;generalize m=n at n1 n2 s3;generalize st2=st3 at B3 c3 s3;refine _i (_cb ?_);cases e:(pendingOf st3).back? with
   | none=>
    dsimp only;refine _i (_aW (_q ⟨lo+n,by first | rfl | (rw[en];rfl),⟨B3.perm,B3.kind,B3.failed⟩,by omega,by omega,?_⟩));show Chain rk (arrOf st3) ((pendingOf st3).push (_,_,0)).toList 0 _;rw[_al];first | exact c3.push n1 s3 | (rw[en]at n1 s3 ⊢;exact c3.push n1 s3)
   | some y=>
    obtain⟨y1,y2,y3⟩:=y;dsimp only;refine _i (_bE (_aJ (I:=λx c st'=>c=(none,())/\SB κ a₀ st'/\Chain rk (arrOf st') (pendingOf st').toList 0 lo/\wE rk (arrOf st') lo (lo+n)) (Q:=λc st'=>c=(none,())/\SB κ a₀ st'/\Chain rk (arrOf st') (pendingOf st').toList 0 lo/\wE rk (arrOf st') lo (lo+n)) ?_ (λc st' z=>z) ⟨rfl,B3,c3,s3⟩) ?_)
    ·rintro x' c st4 _ hx' ⟨rfl,B4,c4,s4⟩;refine _i (_cb ?_);by_cases g:(pendingOf st4).size > 1
     ·rw[_g g];obtain⟨⟨z1,z2,z3⟩,ez⟩:∃x,(pendingOf st4)[(pendingOf st4).size-2]? = some x:=⟨_,_dC _ _ (by omega)⟩;rw[ez];dsimp only;refine yK (λ_=>_q ⟨rfl,B4,c4,s4⟩) λ_=>?_;refine _i (z0C V (i:=(pendingOf st4).size-2) B4 c4 l1 (by omega) λst5 B5 c5 _ fr=>?_);rw[_j (by simp)];exact _q ⟨rfl,B5,c5,λi j i1 i2 i3=>by rw[fr i i1,fr j (by omega)];exact s4 i j i1 i2 i3⟩
     ·rw[_j g];exact _q ⟨rfl,B4,c4,s4⟩
    ·rintro c st4 ⟨rfl,B4,c4,s4⟩;dsimp only;refine _i (_aW (_i (_aW (_q ⟨lo+n,by first | rfl | (rw[en];rfl),⟨B4.perm,B4.kind,B4.failed⟩,by omega,by omega,?_⟩))));show Chain rk (arrOf st4) (((pendingOf st4).modify _ _).push (_,_,0)).toList 0 _;rw[_al,Array.toList_modify];first | (refine Chain.push (Chain.modify ?_ c4) n1 s4;exact λx=>⟨rfl,rfl⟩) | (rw[en]at n1 s4 ⊢;refine Chain.push (Chain.modify ?_ c4) n1 s4;exact λx=>⟨rfl,rfl⟩)
 ·rintro c st1 ⟨lo,rfl,B1,l1,l2,ch⟩;have:lo=a₀.size:=by omega
  subst this;exact⟨rfl,B1,ch⟩
 ·rintro c st1 ⟨rfl,B1,ch⟩;dsimp only;refine _i (_bE (_aJ (I:=λx c st'=>c=(none,())/\SB κ a₀ st'/\Chain rk (arrOf st') (pendingOf st').toList 0 a₀.size/\(pendingOf st').size<=max 1 (a₀.size-x)) (Q:=λc st'=>c=(none,())/\SB κ a₀ st'/\Chain rk (arrOf st') (pendingOf st').toList 0 a₀.size/\(pendingOf st').size<=1) ?_ ?_ ⟨rfl,B1,ch,?_⟩) ?_)
  ·rintro x c st2 _ hx ⟨rfl,B2,c2,l2⟩;refine _i (_cb ?_);refine yK (λq=>_q ⟨rfl,B2,c2,q⟩) λq=>?_;have q:¬ (pendingOf st2).size<=1:=q;refine _i (z0C V B2 c2 (_f _) ?_ λst3 B3 c3 e3 _=>?_)
   ·refine _bU (Nat.add_le_add_right (show _<=(pendingOf st2).size-2 from ?_) 1) (by omega);exact zd1 _ _
   ·rw[_j (by simp)];exact _q ⟨rfl,B3,c3,by omega⟩
  ·rintro c st2 ⟨rfl,B2,c2,l2⟩;exact⟨rfl,B2,c2,by omega⟩
  ·have:=ch.len;simp only[_V]at this;omega
  ·rintro c st2 ⟨rfl,B2,c2,l2⟩;refine _q (h st2 B2 ?_);have l2':(pendingOf st2).toList.length<=1:=by simpa using l2
   generalize (pendingOf st2).toList=l at c2 l2';match l,c2,l2' with
   | [],c2,_=>rw[show 0=a₀.size from c2];exact λi j i1 i2 i3=>by omega | (x,n,p)::[],⟨g1,g2,g3,g4⟩,_=>
    have e:x+n=a₀.size:=g4;rw[e,g1]at g3;exact g3 | _::_::_,_,z=>simp at z
end
end Dt
namespace Dd
open L2 PySem.W Dt
theorem z2Q{α β:Type}{f:α->β}:∀{ys xs:List β},ys.Perm xs->∀l:List α,l.map f=xs->∃l':List α,l'.Perm l/\l'.map f=ys:=by
 intro ys xs p;induction p with
 | nil=>exact λl e=>⟨l,.refl _,e⟩ | cons x p ih=>
  intro l e;cases l with
  | nil=>simp at e | cons a l=>
   simp only[_l,_aS]at e;obtain⟨l',p',e'⟩:=ih l e.2;exact⟨a::l',p'.cons a,by simp[e',e.1]⟩
 | swap x y l0=>
  intro l e;match l,e with
  | a::b::l,e=>
   simp only[_l,_aS]at e;exact⟨b::a::l,.swap a b l,by simp[e.1,e.2.1,e.2.2]⟩
 | trans p1 p2 ih1 ih2=>
  intro l e;obtain⟨l2,q2,e2⟩:=ih2 l e;obtain⟨l1,q1,e1⟩:=ih1 l2 e2;exact⟨l1,q1.trans q2,e1⟩
theorem z7G{α β:Type}:∀Z:List (α×β),(Z.map Prod.fst).zip (Z.map Prod.fst)=Z.map λz=>(z.1,z.1)
 | []=>rfl | z::Z=>by simp[z7G Z]
structure vo{K:Type}(lt:K->K->Bool):Prop where
 irr:∀a,lt a a=false
 tot:∀a b,a≠b->lt b a=!lt a b
 tr:∀a b c,lt a b=true->lt b c=true->lt a c=true
section
variable {K:Type}{lt:K->K->Bool}(Oo:vo lt)
include Oo
theorem zbd{L:List K}{a b:K}(ha:a∈L):decide (L.countP (λz=>lt z a)<L.countP λz=>lt z b)=lt a b:=by
 have mono:∀{a b:K},lt a b=true->∀L:List K,L.countP (λz=>lt z a)<=L.countP λz=>lt z b:=λ{a b} h L=>List.countP_mono_left λz _ hz=>Oo.tr _ _ _ hz h;cases h:lt a b with
 | true=>
  have:∀L:List K,a∈L->L.countP (λz=>lt z a)<L.countP λz=>lt z b:=by
   intro L;induction L with
   | nil=>intro h;cases h | cons x L ih=>
    intro hm;rw[List.countP_cons,List.countP_cons];rcases _h.mp hm with e | hm
    ·subst e;rw[Oo.irr,h];have:=mono h L;simp;omega
    ·have i:=ih hm;by_cases c:lt x a=true;·rw[_g c,_g (Oo.tr _ _ _ c h)];omega
     ·rw[_j c];omega
  exact _aa (this L ha) | false=>
  refine _O ?_;by_cases e:a=b;·subst e;omega
  ·have:lt b a=true:=by rw[Oo.tot a b e,h];rfl
   have:=mono this L;omega
end
section
variable {prog:Program}{w:World}{A:Around}{E:Value->Shared->Prop}{s:Shared}
open Classical in
def keyOf{K:Type}(d:K)(Z:List (Value×K))(v:Value):K:=if h:∃z∈Z,z.1=v then (choose h).2 else d
theorem keyOf_eq{K:Type}{d:K}{Z:List (Value×K)}(fn:∀x∈Z,∀y∈Z,x.1=y.1->x.2=y.2){z:Value×K}(hz:z∈Z):keyOf d Z z.1=z.2:=by
 have h:∃x∈Z,x.1=z.1:=⟨z,hz,rfl⟩;rw[keyOf,dif_pos h];exact fn _ h.choose_spec.1 _ hz h.choose_spec.2
def z7L(prog:Program)(w:World)(A:Around){K:Type}(lt:K->K->Bool)(κ:SortKind)(Z:List (Value×K))(s:Shared):Prop:= (∀(Q:SortKind->Shared->Prop)(E:Value->Shared->Prop),0<Z.length->Q κ s->wpAny (model prog w) A (keyKind' (Z.map Prod.fst).toArray) Q E s)/\ ∀x∈Z,∀y∈Z,∀(C:Bool->Shared->Prop)(E:Value->Shared->Prop),C (lt x.2 y.2) s->wpAny (model prog w) A (keyLt' κ x.1 y.1) C E s
theorem z6P {K:Type} {lt:K->K->Bool} (Oo:vo lt) (d:K) {κ:SortKind} {Z:List (Value×K)} (fn:∀x∈Z,∀y∈Z,x.1=y.1->x.2=y.2) {a:Addr} {n:Nat} {P:PySem.Fin->Shared->Prop} (ho:s.heap.get? a=some (seqObj "list" (Z.map Prod.fst).toArray n)) (hp:∀s':Shared,(∀b o,b≠a->s.heap.get? b=some o->s'.heap.get? b=some o)->z7L prog w A lt κ Z s') (hline:Z.length<=sizeLine) (h:∀Z':List (Value×K),Z'.Perm Z->(Z'.map Prod.snd).Pairwise (λa b=>lt b a=false)->P (.done (.ret .none)) {s with heap:=sortedHeap s.heap a (Z.map Prod.fst) (Z'.map Prod.fst).toArray}):wpAny (model prog w) A (Builtin.«list.sort» ⟨[.ref a],[]⟩) P E s:=by
 have ha:a<s.heap.objs.size:=_r ho;have hv:(Z.map Prod.fst).length=Z.length:=_o _;generalize hvs:Z.map Prod.fst=vs at *;obtain⟨e1,g1⟩:∃e1,(s.heap.update a (Obj.mapSeq λ_=>(#[]:Array Value))).get? a=some (seqObj "list" #[] e1):=⟨_,get?_update_seq ho λ_=>#[]⟩;have g2:(((s.heap.update a (Obj.mapSeq λ_=>(#[]:Array Value))).push (seqObj "tuple" vs.toArray 0)).push (seqObj "list" #[] 0)).get? a=some (seqObj "list" #[] e1):=_e _ (_e _ g1);have ok:=hp {s with heap:=((s.heap.update a (Obj.mapSeq λ_=>(#[]:Array Value))).push (seqObj "tuple" vs.toArray 0)).push (seqObj "list" #[] 0)} λb o hb e=> _e _ (_e _ (((_bo s.heap a (Obj.mapSeq λ_=>(#[]:Array Value))).2 b hb).trans e));rw[list_sort_plain];refine _a (listItems_at ho rfl (_a (listUpdate_at ho rfl (_a (seqEpoch_at g1 rfl (_a (wpAny_newTuple (_a (wpAny_newList (_ay ?_) (_aZ _))) (by rw[hv];exact hline))))) (by rw[_k,hv];exact hline) (_aZ _))));dsimp only;by_cases big:vs.toArray.size<2
 ·rw[_g big,_g big];have small:vs.length<2:=by simpa using big
  refine _a (_c (_a (_c ?_)));dsimp only;have out:(arrOf (SortSt.mk' general' (vs.toArray.zip vs.toArray) #[] 7 none)).map (·.2)=vs.toArray:=by
   show ((vs.toArray.zip vs.toArray).map (·.2))=_;apply Array.ext_getElem?;intro i;by_cases hi:i<vs.length<;>simp[hi]
  rw[out];refine _a (seqEpoch_at g2 rfl (_a (listUpdate_at g2 rfl ?_ (_aZ _) (by rw[_k,hv];exact Nat.le_succ_of_le hline))));simp only[bne_self_eq_false,_B,_ab];have h':=h Z (.refl _) (by match Z,hv with
   | [],_=>exact .nil | [x],_=>exact List.pairwise_singleton _ _ | _::_::_,z=>simp at z;omega);rw[hvs]at h';exact _c h'
 ·rw[_j big,_j big];have b2:2<=vs.length:=by simpa using big
  have ok1:=ok.1;rw[hvs]at ok1;refine _a (ok1 _ _ (by omega) ?_);have mz:∀x∈(pairsOf vs).toList,∃z∈Z,x=(z.1,z.1):=λx hx=>by
   rw[pairsOf_toList]at hx;obtain⟨e,hm⟩:=mem_zip_self hx;rw[<- hvs]at hm;obtain⟨z,hz,ez⟩:=_y.mp hm;exact⟨z,hz,_cW ez.symm (by rw[<- e];exact ez.symm)⟩
  have V:Env prog w A {s with heap:=((s.heap.update a (Obj.mapSeq λ_=>(#[]:Array Value))).push (seqObj "tuple" vs.toArray 0)).push (seqObj "list" #[] 0)} κ (· ∈ (pairsOf vs).toList) (λx=>(Z.map Prod.snd).countP λz=>lt z (keyOf d Z x.1)):=⟨λx y hx hy C E hc=>by
   obtain⟨zx,mx,rfl⟩:=mz x hx;obtain⟨zy,my,rfl⟩:=mz y hy;refine ok.2 zx mx zy my C E ?_;simp only[keyOf_eq fn mx,keyOf_eq fn my]at hc;rw[zbd Oo (List.mem_map_of_mem mx)]at hc;exact hc⟩;refine _a (_z (show wpAny _ _ ((sortRuns').run (SortSt.mk' κ (pairsOf vs) #[] 7 none)) _ _ _ from zcg V (st:=SortSt.mk' κ (pairsOf vs) #[] 7 none) (Q:=λ_ st'=>SB κ (pairsOf vs) st'/\wE (λx=>(Z.map Prod.snd).countP λz=>lt z (keyOf d Z x.1)) (arrOf st') 0 (pairsOf vs).size) ⟨Array.Perm.refl _,rfl,rfl⟩ rfl λst' B sr=>⟨B,sr⟩) ?_ λ_ _ z=>z);rintro⟨⟨⟩,st'⟩ s' ⟨rfl,B,sr⟩;dsimp only at B sr ⊢;have pl:(arrOf st').toList.Perm (vs.zip vs):=by rw[<- pairsOf_toList];exact _bF.mp B.perm
  have zz:(Z.map λz=>(z.1,z.1))=vs.zip vs:=by rw[<- hvs,z7G]
  obtain⟨Z',pz,ez⟩:=z2Q pl Z zz;have out:(arrOf st').map (·.2)=(Z'.map Prod.fst).toArray:=by
   apply Array.toList_inj.mp;rw[Array.toList_map,<- ez,_aI];rfl
  have pw:(Z'.map Prod.snd).Pairwise λa b=>lt b a=false:=by
   rw[List.pairwise_iff_getElem];intro i j hi hj hij;have hi':i<Z'.length:=by simpa using hi
   have hj':j<Z'.length:=by simpa using hj
   have sz:(arrOf st').size=Z'.length:=by rw[<- _V,<- ez,_o]
   have az:∀k (hk:k<Z'.length),at_ (arrOf st') k=(Z'[k].1,Z'[k].1):=λk hk=>by
    have:(arrOf st').toList[k]? = some (Z'[k].1,Z'[k].1):=by rw[<- ez,_R,_n hk];rfl
    have e2:(arrOf st')[k]? = some (Z'[k].1,Z'[k].1):=by simpa using this
    have e3:=z4N (arr:=arrOf st') (i:=k) (by omega);rw[e2]at e3;exact (_v e3).symm
   have r:=sr i j (_aZ _) (_az hij) (by rw[<- B.size];omega);rw[az i hi',az j hj']at r;have mi:Z'[i]∈Z:=pz.mem_iff.mp (_a9 _);have mj:Z'[j]∈Z:=pz.mem_iff.mp (_a9 _);simp only[keyOf_eq fn mi,keyOf_eq fn mj]at r;rw[List.getElem_map,List.getElem_map,<- zbd Oo (L:=Z.map Prod.snd) (List.mem_map_of_mem mj)];exact _O (by omega)
  rw[out,B.failed];refine _a (seqEpoch_at g2 rfl (_a (listUpdate_at g2 rfl ?_ (_aZ _) (by rw[_k,_o,pz.length_eq];exact Nat.le_succ_of_le hline))));simp only[bne_self_eq_false,_B,_ab];exact _c (h Z' pz pw)
theorem z24 {K:Type} {lt:K->K->Bool} (Oo:vo lt) (d:K) {κ:SortKind} {Z:List (Value×K)} (fn:∀x∈Z,∀y∈Z,x.1=y.1->x.2=y.2) {l:Addr} {Q:Value->Shared->Prop} (hl:s.heap.IsList l (Z.map Prod.fst).toArray) (hp:∀(A':Around) (s':Shared),A'.units<=A.units+4->(∀b o,s.heap.get? b=some o->s'.heap.get? b=some o)->z7L prog w A' lt κ Z s') (hline:Z.length<=sizeLine) (h:∀Z':List (Value×K),Z'.Perm Z->(Z'.map Prod.snd).Pairwise (λa b=>lt b a=false)->Q (.ref (s.heap.objs.size+1)) {s with heap:=sortedAll s.heap (Z.map Prod.fst) (Z'.map Prod.fst).toArray}): wpAny (model prog w) A (call (.builtin "sorted") [.ref l]) Q E s:=by
 have hv:(Z.map Prod.fst).length=Z.length:=_o _;have hline':(Z.map Prod.fst).toArray.size<=sizeLine:=by simpa using hline
 refine Calls.call_function_entry kind_sorted plain_sorted entry_sorted (args_sorted1 _) ?_;unfold Builtin.«sorted»;refine _a (m:=checkCount "sorted" 1 1 _) (_c (_a (collect_list hl (_a (wpAny_newList ?_ hline')) hline')));have sz:((s.heap.push (seqObj "list" #[] 0)).update s.heap.objs.size (Obj.mapSeq (· ++ (Z.map Prod.fst).toArray))).objs.size=s.heap.objs.size+1:=by rw[Heap.size_update,size_push']
 have g:(((s.heap.push (seqObj "list" #[] 0)).update s.heap.objs.size (Obj.mapSeq (· ++ (Z.map Prod.fst).toArray))).push (seqObj "list" (Z.map Prod.fst).toArray 0)).get? (s.heap.objs.size+1)=some (seqObj "list" (Z.map Prod.fst).toArray 0):=by
  rw[<- sz];exact _t _ rfl
 have keep:∀b o,s.heap.get? b=some o->(((s.heap.push (seqObj "list" #[] 0)).update s.heap.objs.size (Obj.mapSeq (· ++ (Z.map Prod.fst).toArray))).push (seqObj "list" (Z.map Prod.fst).toArray 0)).get? b=some o/\b≠s.heap.objs.size+1:=λb o q=>by
  have lt:b<s.heap.objs.size:=_r q;refine⟨?_,_G (_aN lt)⟩;rw[Heap.get?_push_ne _ _ _ (by rw[sz];exact _G (_aN lt)),Heap.get?_update_ne _ _ _ _ (_G lt),Heap.get?_push_ne _ _ _ (_G lt)];exact q
 show wpAny (model prog w) _ _ _ _ {s with heap:=((s.heap.push (seqObj "list" #[] 0)).update s.heap.objs.size (Obj.mapSeq (· ++ (Z.map Prod.fst).toArray))).push (seqObj "list" (Z.map Prod.fst).toArray 0)};rw[sz];exact _a (_ay (_af slot_list_sort ⟨_,g,rfl⟩ entry_list_sort (z6P Oo d fn g (λs' k=>hp _ s' (by simp[Around.in1]) λb o q=>k b o (keep b o q).2 (keep b o q).1) hline λZ' pz pw=>⟨_,rfl,_c ⟨_,rfl,h Z' pz pw⟩⟩) (args_list_sort _)))
end
open Pm
theorem zbe{K:Type}{lt:K->K->Bool}(Oo:vo lt):∀{xs ys:List K},xs.Perm ys->xs.Pairwise (λa b=>lt b a=false)->ys.Pairwise (λa b=>lt b a=false)->xs=ys
 | [],ys,p,_,_=>by rw[List.Perm.nil_eq p] | x::xs,[],p,_,_=>by simp at p | x::xs,y::ys,p,h1,h2=>by
  have hx:x∈y::ys:=p.mem_iff.mp (by simp);have hy:y∈x::xs:=p.mem_iff.mpr (by simp);rw[_bf]at h1 h2;have e:x=y:=by
   rcases _h.mp hx with e | hx;·exact e
   ·rcases _h.mp hy with e | hy;·exact e.symm
    ·refine _bL λne=>?_;have a:=h1.1 y hy;have b:=h2.1 x hx;rw[Oo.tot y x λz=>ne z.symm,a]at b;cases b
  subst e;rw[zbe Oo ((List.perm_cons x).mp p) h1.2 h2.2]
noncomputable def zV{K:Type}(lt:K->K->Bool)(L:List K):List K:=L.mergeSort λa b=>!lt b a
theorem qF{K:Type}(lt:K->K->Bool)(L:List K):(zV lt L).Perm L:=List.mergeSort_perm L _
theorem z2R{K:Type}{lt:K->K->Bool}(Oo:vo lt){L L':List K}(p:L'.Perm L)(h:L'.Pairwise λa b=>lt b a=false):zV lt L=L':=by
 refine zbe Oo ((qF lt L).trans p.symm) ?_ h;have:=List.pairwise_mergeSort (le:=λa b=>!lt b a) (λa b c h1 h2=>by
  simp only[_aP]at h1 h2 ⊢;by_cases e1:a=b;·rw[e1];exact h2
  by_cases e2:b=c;·rw[<- e2];exact h1
  have q1:lt a b=true:=by rw[Oo.tot b a λz=>e1 z.symm,h1];rfl
  have q2:lt b c=true:=by rw[Oo.tot c b λz=>e2 z.symm,h2];rfl
  have q3:=Oo.tr _ _ _ q1 q2;have ne:a≠c:=λz=>by rw[z,Oo.irr]at q3;cases q3
  rw[Oo.tot a c ne,q3];rfl) (λa b=>by
  by_cases e:a=b;·rw[e,Oo.irr];rfl
  ·rw[Oo.tot a b e];cases lt a b<;>rfl) L;exact this.imp λh=>by simpa using h
theorem z2o:vo lexN:=⟨xX,λ_ _=>qI,λ_ _ _=>z0M⟩
theorem z27:∀{vs:List Value}{a b:List Int},yy vs a->yy vs b->a=b
 | _,_,_,.nil,.nil=>rfl | _,_,_,.cons h1,.cons h2=>by rw[z27 h1 h2]
theorem TupAt.one{h:Heap}{v:Value}{p q:List Int}(h1:TupAt h v p)(h2:TupAt h v q):p=q:=by
 obtain⟨a,o,n,us,rfl,g,c,d,i,_⟩:=h1;obtain⟨b,o',n',us',e,g',c',d',i',_⟩:=h2;cases e;rw[g]at g';cases g';rw[d]at d';cases d';exact z27 i i'
theorem z3b:∀{h:Heap}{vs:List Value}{ps:List (List Int)},uH h vs ps->(vs.zip ps).map Prod.fst=vs/\(vs.zip ps).map Prod.snd=ps/\∀z∈vs.zip ps,TupAt h z.1 z.2
 | _,_,_,.nil=>⟨rfl,rfl,λz hz=>by cases hz⟩ | _,_,_,.cons p r=>by
  obtain⟨h1,h2,h3⟩:=z3b r;refine⟨by simp[h1],by simp[h2],λz hz=>?_⟩;rw[_bv]at hz;rcases _h.mp hz with rfl | hz;·exact p
  ·exact h3 z hz
section
variable {X:Cx}{E:XK}
theorem zcT{prog:Program}{w:World}{A:Around}{s:Shared}{vs:List Value}{ps:List (List Int)}(h:uH s.heap vs ps):z7L prog w A lexN (tuples' true) (vs.zip ps) s:=by
 obtain⟨h1,h2,h3⟩:=z3b h;refine⟨λQ E h0 q=>?_,λx hx y hy C E hc=>zcf (h3 x hx) (h3 y hy) hc⟩;rw[h1];refine z8e h (by rw[<- h2,_o];exact h0) q
theorem zh5 {H:Hp}:∀{ys:List V} {its:List Value} {ps:List (List Int)},yF ys its->Paired (λv ns=>AtN H v ns) ys ps->∃T:List (V×Value×List Int),T.map (λt=>t.2)=its.zip ps/\∀t∈T,yq t.1 t.2.1/\AtN H t.1 t.2.2
 | _,_,_,.nil,.nil=>⟨[],rfl,λt h=>by cases h⟩ | _,_,_,.cons (a:=y) (b:=v) r rs,.cons (b:=p) a ps=>by
  obtain⟨T,h1,h2⟩:=zh5 rs ps;refine⟨(y,v,p)::T,by simp[h1],λt ht=>?_⟩;rcases _h.mp ht with rfl | ht;·exact⟨r,a⟩
  ·exact h2 t ht
theorem z4r{H:Hp}:∀{T:List (V×Value×List Int)},(∀t∈T,yq t.1 t.2.1/\AtN H t.1 t.2.2)->yF (T.map Prod.fst) (T.map λt=>t.2.1)/\Paired (λv ns=>AtN H v ns) (T.map Prod.fst) (T.map λt=>t.2.2)
 | [],_=>⟨.nil,.nil⟩ | t::T,h=>by
  obtain⟨h1,h2⟩:=z4r (T:=T) λt ht=>h t (.tail _ ht);exact⟨.cons (h t (.head _)).1 h1,.cons (h t (.head _)).2 h2⟩
def zb2(K:W.Frag):List V->Hp->VK->Prop:=λxs H Q=>∃(l:Addr)(ys:List V)(ps:List (List Int)),xs=[.ref l]/\SqL K H l ys/\Paired (λv ns=>AtN H v ns) ys ps/\(∀n∈ps,n≠[])/\ ∀zs,Paired (λv ns=>AtN H v ns) zs (zV lexN ps)->∀r,H r=none->Q (.ref r) (upd H r (.lst zs))
theorem z6r:xG X (.builtin "sorted") (zb2 X.K):=by
 intro pins s O H xs us Q I r h;obtain⟨l,ys,ps,rfl,hq,hp,hn,q⟩:=h;obtain⟨u,rfl,rx⟩:=vals1 r;cases rx;obtain⟨its,r',pl,hz⟩:=I.list hq;have hlen:=r'.length;have tu:=z8s I r' hp hn;obtain⟨h1,h2,h3⟩:=z3b tu;obtain⟨T,t1,t2⟩:=zh5 r' hp;have lz:(its.zip ps).length=its.length:=by rw[<- _o (f:=Prod.fst) (as:=its.zip ps),h1]
 refine z24 z2o [] (κ:=tuples' true) (Z:=its.zip ps) (λx hx y hy e=>(h3 x hx).one (by rw[e];exact h3 y hy)) (by rw[h1];exact pl.isList) (λA' s' _ k=>zcT (tu.mono k)) (by omega) λZ' pz pw=>?_;rw[h1];obtain⟨T',pt,et⟩:=z2Q (f:=λt:V×Value×List Int=>t.2) pz T t1;have eT1:T'.map (λt=>t.2.1)=Z'.map Prod.fst:=by rw[<- et,_aI];rfl
 have eT2:T'.map (λt=>t.2.2)=Z'.map Prod.snd:=by rw[<- et,_aI];rfl
 obtain⟨b1,b2⟩:=z4r (T:=T') λt ht=>t2 t (pt.mem_iff.mp ht);rw[eT1]at b1;rw[eT2,<- z2R z2o (show (Z'.map Prod.snd).Perm ps from by have:=pz.map Prod.snd;rwa [h2]at this) pw]at b2;obtain⟨c',e⟩:=sortedAll_at s.heap its (Z'.map Prod.fst).toArray;refine⟨.ref (s.heap.objs.size+1),_,I.laid (t':=s.toks) (λb o z=>sortedAll_old z) (Nat.le_succ _) (show yN X.prog X.w _ (sortedAll s.heap its (Z'.map Prod.fst).toArray) _ (.lst (T'.map Prod.fst)) from⟨?_,_,c',b1,e⟩),rfl,q _ b2 _ (I.hok.fresh (Nat.le_succ _))⟩;have l1:T'.length=(its.zip ps).length:=by rw[pt.length_eq,<- _o (f:=λt:V×Value×List Int=>t.2) (as:=T),t1]
 rw[_o,l1,lz];omega
theorem z40{mg:Gm}{H:Hp}{Y:List Addr}:∀{zs:List V}{ps:List (List Int)},Paired (λv ns=>AtN H v ns) zs ps->zq mg H Y (ps.map λns=>.tup (ns.map D.int)) zs
 | _,_,.nil=>zq.nil | _,_,.cons (b:=p) ⟨b,e,h⟩ r=>by
  simp only[_l,zq];refine⟨_,_,rfl,?_,z40 r⟩;simp only[Den];exact⟨b,_,e,h,wI p⟩
noncomputable def z47(s:Sto)(d:D):Option (List (List Int)):=match listOf s d with
 | some xs=>match z3k xs with
  | some L=>if L.all (λn=>!n.isEmpty)=true then some (zV lexN L) else none | none=>none
 | none=>none
noncomputable def zg3:Mir:=λds s=>match ds with
 | [d]=>match z47 s d with | some L=>.ok (.loc s.length) (s++[L.map λns=>.tup (ns.map D.int)]) | none=>.no
 | _=>.no
noncomputable def z5O:Mir:=λds s=>match ds with
 | [d]=>match z47 s d with | some L=>.ok (.lst (L.map λns=>.tup (ns.map D.int))) s | none=>.no
 | _=>.no
theorem z9k{H:Hp}{Y:List Addr}{s:Sto}{d:D}{v:V}{L:List (List Int)}{Q:VK}(r:Rep (gm X) H Y s)(dn:Den (gm X) H Y d v)(e:z47 s d=some L)(q:∀vs,zq (gm X) H Y (L.map λns=>.tup (ns.map D.int)) vs->∀a,H a=none->Q (.ref a) (upd H a (.lst vs))):zb2 X.K [v] H Q:=by
 unfold z47 at e;split at e
 ·rename_i xs ex;split at e
  ·rename_i L eL;split at e
   ·rename_i hp;cases e;obtain⟨a,ws,rfl,q1,q2⟩:=zQ r ex dn;exact⟨a,ws,L,rfl,.inl q1,z4y eL q2,(λn hn z=>by have:=_ag.mp hp n hn;rw[z]at this;cases this),λzs pz=>q zs (z40 pz)⟩
   ·cases e
  ·cases e
 ·cases e
theorem zbY:∃r,xG X (.builtin "sorted") r/\jH X E r z5O:=⟨_,z6r.freeze,λH Y s ds vs Q r hd h=>by
 unfold z5O at h;split at h
 ·rename_i d;split at h
  ·rename_i L e;obtain⟨v,rfl,dn⟩:=z0F hd;exact z9k r dn e λvs dv=>qM r h dv
  ·exact h.elim
 ·exact h.elim⟩
end
end Dd
namespace L2
section
variable {X:Cx}{pins:List (Addr×Obj)}{O:St}{H:Hp}{s:Shared}{a:Addr}{kvs:List (Key×V)}{k:Key}{v:V}{u r:Value}{A:Around}{E:Value->Shared->Prop}{Q:Unit->Shared->Prop}
theorem z6n(I:Inv X pins O H s)(g:z6Q H a kvs)(hl:kvs.length<sizeLine)(ry:yq (kV k) u)(rv:yq v r)(h:∀s',Inv X pins O (upd H a (.dK (z36 kvs k v))) s'->Q () s'):wpAny (model X.prog X.w) A (setItem (.ref a) u r) Q E s:=by
 obtain⟨z,hd,vs,rel,dd⟩:=z2q I g;have hz:vs.length<=sizeLine:=by rw[<- rel.length];exact z
 have hl':(z36 kvs k v).length<=sizeLine:=by have:=z1i kvs k v;omega
 refine wpAny_setItem_pairs (hsz:=hz) (z6Y ry) dd λh' dd' hs=>h _ ?_;have he:∃q,h'.get? a=some q:=let ⟨q,_,_,hq,_⟩:=dd';⟨q,hq⟩;exact z7j I (z60 g) hs he (zaH hl' hd (rel.put k rv) dd')
end
section
variable {X:Cx}{o i e f value:Expr}{pos pos' apos cpos:Pos}{td ty tv tx:TE}
theorem zae(ho:PE X o td)(he:PE X e ty)(hf:PE X f tx)(m:M2 X o "get" apos e f cpos):PE X (.Call (.Attribute o "get" apos) [e,f] [] cpos) (λO H Q=>td O H λx H1=>∃a,x=.ref a/\IsD H1 a/\ty O H1 λy H2=>tx O H2 λz H3=>∃kvs k,z6Q H3 a kvs/\y=kV k/\Q ((qk kvs k).getD z) H3):=by
 intro pins s O H Q I h;refine wpAny_Call_method m.base m.few m.line _bY _bi PySem.F.type_dict_get (thn (ho pins s O H _ I h) λu s1 ⟨x,H1,I1,rx,a,ex,d,q1⟩=>?_);subst ex;obtain rfl:u=Value.ref a:=rx;obtain⟨t1,t2,_⟩:=zb7 I1 d;refine⟨t1,t2,?_⟩;rw[m.trees];refine _b6 rfl (_cr (_bc (thn (he pins s1 O H1 _ I1 q1) λiv s2 ⟨y,H2,I2,ry,q2⟩=> _bc (thn (hf pins s2 O H2 _ I2 q2) λfv s3 ⟨z,H3,I3,rz,kvs,k,g,ey,q3⟩=>_b2 ?_))));subst ey;obtain⟨_,hd,vs,rel,dd⟩:=z2q I3 g;exact _dA _bi dd.typeIs _b7 (_bX _ _ _) (meets_dict_get_default (yJ X.prog X.w) a (z6Y ry) hd fv) ⟨_,dd.mapOf,⟨_,H3,I3.tok _,(rel.val k).getD rz,q3⟩⟩
end
end L2
namespace Dd
open L2
noncomputable def z74(k:Int)(v:D):List D->List D
 | .tup [.int i,.lst ys,.non]::t=>if i=k then .tup [.int i,.lst (ys++[v]),.non]::t else .tup [.int i,.lst ys,.non]::z74 k v t | d::t=>d::z74 k v t | []=>[]
section
variable {mg:Gm}{H H':Hp}{Y:List Addr}{s:Sto}{l:Nat}{a p b:Addr}{xs xs' ys:List D}{kvs kvs':List (Key×V)}{k:Int}{vs:List V}{d:D}{v:V}
theorem yw.dk {u:HO} {j0:Nat} (r:Rep mg H Y s) (ha:Y[l]? = some a) (hx:s[l]? = some xs) (hp:H p=none) (hD:(kvs=[]/\xs=[]/\H a=some (.dT []))\/(kvs≠[]/\H a=some (.dK kvs)/\wM mg H Y xs kvs)) (hu:∀kvs,u≠.dK kvs) (pr:∀(i:Nat) q b,kvs'[i]? = some (q,V.ref b)->(b=p/\i=j0)\/kvs[i]? = some (q,V.ref b)) (ne:kvs'≠[]) (fl:D.flat.flats xs'=true) (hk:∀H',H'=upd (upd H p u) a (.dK kvs')->(∀ys ws,zq mg H Y ys ws->zq mg H' Y ys ws)->(∀q b ws,(q,V.ref b)∈kvs->H b=some (.lst ws)->H' b=some (.lst ws))->(∀b o ws,H b=some (.frz o (.lst ws))->H' b=some (.frz o (.lst ws)))->H' p=some u->wM mg H' Y xs' kvs'): yw mg H Y (upd (upd H p u) a (.dK kvs')) Y (s.set l xs'):=by
 have hai:a∈Y:=_d ha;have pn:p∉Y:=r.notin hp;have hll:l<s.length:=by rw[<- r.len];exact (_b.mp ha).1
 have pa:p≠a:=λz=>pn (z ▸ hai);have ka:∀o,H a=some o->(∀kvs,o≠.dT kvs)->(∀kvs,kvs≠[]->o≠.dK kvs)->False:=λo e n2 n3=>by
  rcases hD with⟨_,_,z⟩ | ⟨n,z,_⟩;·rw[e]at z;exact n2 _ (_v z)
  ·rw[e]at z;exact n3 _ n (_v z)
 have nl:∀ws,H a≠some (.lst ws):=λws e=>ka _ e (by intro _ z;cases z) (by intro _ _ z;cases z);have same:∀{b},b≠a->b≠p->upd (upd H p u) a (.dK kvs') b=H b:=λ{b} h1 h2=>by rw[zg h1,zg h2]
 have np:∀{b o},H b=some o->b≠p:=λ{b o} e z=>by rw[z,hp]at e;cases e
 have atp:upd (upd H p u) a (.dK kvs') p=some u:=by rw[zg pa,zu]
 have ata:upd (upd H p u) a (.dK kvs') a=some (.dK kvs'):=zu;have hk:=hk _ rfl;generalize hH:upd (upd H p u) a (.dK kvs')=H' at same atp ata hk;have kp:Kp H H':=by
  refine⟨λb o q n1 n2 n3=>?_,λb ⟨ws,q⟩=>?_,λb q=>?_⟩
  ·by_cases z:b=a;·subst z;exact (ka o q n2 n3).elim
   ·rw[same z (np q)];exact q
  ·by_cases z:b=a;·subst z;exact (nl ws q).elim
   ·exact⟨ws,by rw[same z (np q)];exact q⟩
  ·by_cases z:b=a;·subst z;exact .inr (.inr (.inl ⟨_,ne,ata⟩))
   ·have:H' b=H b:=same z (by rcases q with⟨_,q⟩ | ⟨_,_,q⟩ | ⟨_,_,q⟩ | ⟨_,_,q⟩<;>exact np q);rw[IsC,this];exact q
 have cases_:∀{a' kvs''},H' a'=some (.dK kvs'')->a'∈Y->(a'=a/\kvs''=kvs')\/(a'≠a/\H a'=some (.dK kvs'')):=λ{a' kvs''} e m=>by
  by_cases z:a'=a;·subst z;rw[ata]at e;cases e;exact .inl ⟨rfl,rfl⟩
  ·rw[same z (λy=>pn (y ▸ m))]at e;exact .inr ⟨z,e⟩
 have dkH:∀{i:Nat} {q b},kvs[i]? = some (q,V.ref b)->H a=some (.dK kvs):=λ{i q b} g=>by
  rcases hD with⟨rfl,_,_⟩ | ⟨_,z,_⟩;·simp at g
  ·exact z
 have old:∀{i:Nat} {q b},kvs[i]? = some (q,V.ref b)->Own H Y b:=λ{i q b} g=>⟨a,hai,kvs,q,dkH g,_d g⟩;have ow:∀b,Own H' Y b->Own H Y b\/b=p:=λb ⟨a',m,kvs'',q,e,hm⟩=>by
  rcases cases_ e m with⟨rfl,rfl⟩ | ⟨_,e⟩
  ·obtain⟨i,hi⟩:=z1L hm;rcases pr i q b hi with⟨z,_⟩ | z;·exact .inr z
   ·exact .inl (old z)
  ·exact .inl ⟨a',m,kvs'',q,e,hm⟩
 have wst:∀b ws,b∉Y->H b=some (.lst ws)->H' b=some (.lst ws):=λb ws hb q=>by rw[same (show b≠a from λz=>hb (z ▸ hai)) (np q)];exact q
 have fzs:∀b o ws,H b=some (.frz o (.lst ws))->H' b=some (.frz o (.lst ws)):=λb o ws q=>kp.k b _ q (by intro _ z;cases z) (by intro _ z;cases z) (by intro _ _ z;cases z);refine⟨⟨by simp[r.len],r.nd,λj zs h=>?_,λzs h=>?_,λb h=>?_,?_⟩,_aV _,λb o h hb _=>?_,λa h1 h2=>absurd h1 h2,λb hb=>(r.mt b hb).imp (λh=>⟨h,kp.l b h⟩) λh=>⟨h,kp.c b h,λ_ _ e=>kp.k b _ e (by intro _ z;cases z) (by intro _ z;cases z) (by intro _ _ z;cases z)⟩,λb h=>?_,λb h=>(ow b h).imp id λz=>by rw[z];exact hp⟩
 ·by_cases hj:l=j
  ·subst hj;rw[_P hll]at h;cases h;exact⟨a,ha,.inr (.inr (.inr (.inl ⟨_,ne,ata,hk (λ_ _ q=>q.gen kp λ_ _ q=>q) (λq b ws hm=>by obtain⟨i,hi⟩:=z1L hm;exact wst b ws (r.own b (old hi))) fzs atp⟩)))⟩
  ·rw[_I hj]at h;obtain⟨b,h1,h2⟩:=r.cell j zs h;refine⟨b,h1,h2.gen kp (λ_ _ q=>q) (same ?_ λz=>pn (z ▸ _d h1)) (_d h1) r.own wst⟩;rintro rfl;exact hj ((_aU r.nd).mp (((_b.mp ha).2).trans ((_b.mp h1).2).symm))
 ·rcases _aC h with h | h;·exact r.flat zs h
  ·rw[h];exact fl
 ·rcases ow b h with h | rfl;·exact r.own b h
  ·exact pn
 ·intro a1 m1 a2 m2 k1 k2 i j q1 q2 b e1 e2 g1 g2;have ot:∀{a' kvs'' q b},a'∈Y->H a'=some (.dK kvs'')->(q,V.ref b)∈kvs''->b≠p:=λ{a' kvs'' q b} m e hm z=>by obtain⟨u,hu⟩:=r.ownAt ⟨a',m,kvs'',q,e,hm⟩;exact np hu z
  have on:∀{i:Nat} {q b},kvs[i]? = some (q,V.ref b)->b≠p:=λ{i q b} g z=>by obtain⟨u,hu⟩:=r.ownAt (old g);exact np hu z
  rcases cases_ e1 m1 with⟨rfl,rfl⟩ | ⟨n1,e1⟩<;>rcases cases_ e2 m2 with⟨rfl,rfl⟩ | ⟨n2,e2⟩
  ·rcases pr i q1 b g1 with⟨rfl,rfl⟩ | g1<;>rcases pr j q2 b g2 with⟨z,rfl⟩ | g2;·exact⟨rfl,rfl⟩
   ·exact absurd rfl (on g2)
   ·exact absurd z (on g1)
   ·exact r.uq _ m1 _ m1 _ _ i j q1 q2 b (dkH g1) (dkH g1) g1 g2
  ·rcases pr i q1 b g1 with⟨rfl,rfl⟩ | g1;·exact absurd rfl (ot m2 e2 (_d g2))
   ·exact r.uq _ m1 _ m2 _ _ i j q1 q2 b (dkH g1) e2 g1 g2
  ·rcases pr j q2 b g2 with⟨rfl,rfl⟩ | g2;·exact absurd rfl (ot m1 e1 (_d g1))
   ·exact r.uq _ m1 _ m2 _ _ i j q1 q2 b e1 (dkH g2) g1 g2
  ·exact r.uq _ m1 _ m2 _ _ i j q1 q2 b e1 e2 g1 g2
 ·rw[same (show b≠a from λz=>hb (z ▸ hai)) (np h)];exact h
 ·rw[<- hH]at h;exact vn (vn h)
end
end Dd
namespace L2
section
variable {X:Cx}{pins:List (Addr×Obj)}{O:St}{H:Hp}{s:Shared}{a:Addr}{kvs:List (Key×V)}{k:Key}{v:V}{u r:Value}{A:Around}{E:Value->Shared->Prop}{Q:Unit->Shared->Prop}
theorem zcX{kvs:List (Key×V)}{vs:List (Key×Value)}(r:KV kvs vs):kvs.map (·.1)=vs.map (·.1):=by
 unfold KV at r;induction r with
 | nil=>rfl | cons h t ih=>rw[_l,_l,ih,h.1]
theorem zd5(I:Inv X pins O H s)(g:z6Q H a kvs):(kvs.map (·.1)).Nodup:=by
 obtain⟨z,hd,vs,rel,o,es,ep,_,_,_,_,_,nd⟩:=z2q I g;rw[zcX rel];exact nd
end
section
variable {X:Cx}{o i value:Expr}{pos pos':Pos}{td ty tv:TE}
theorem z9V(ho:PE X o td)(hi:PE X i ty)(hv:PE X value tv)(hs:swapsWith value (some (.Subscript o i pos')) pos.line X.env=pure false): PS X (.Assign [.Subscript o i pos'] value pos) (λD O H=>tv O H λv H1=>td O H1 λx H2=>ty O H2 λy H3=>∃a kvs k,x=.ref a/\z6Q H3 a kvs/\kvs.length<sizeLine/\y=kV k/\((kvs.map (·.1)).Nodup->D.nx O (upd H3 a (.dK (z36 kvs k v))))):=by
 intro pins s O H D I h;refine wpAny_Assign_Subscript (thn (hv pins s O H _ I h) λr s1 ⟨v,H1,I1,rv,q1⟩=>thn (ho pins s1 O H1 _ I1 q1) λu s2 ⟨x,H2,I2,rx,q2⟩=>thn (hi pins s2 O H2 _ I2 q2) λiv s3 ⟨y,H3,I3,ry,a,kvs,k,ex,g,hl,ey,q3⟩=>?_) hs;subst ex ey;obtain rfl:u=Value.ref a:=rx;exact z6n I3 g hl ry rv λs4 I4=>⟨O,_,I4,q3 (zd5 I3 g)⟩
end
end L2
namespace Dd
open L2
section
variable {mg:Gm}{H H':Hp}{Y:List Addr}{s:Sto}{l:Nat}{a p b:Addr}{xs xs' ys:List D}{kvs kvs':List (Key×V)}{k:Int}{vs:List V}{d:D}{v:V}
noncomputable abbrev z9b(k:Key)(v:V)(kvs:List (Key×V)):List (Key×V):=kvs.map λkv=>if kv.1=k then (kv.1,v) else kv
theorem z5P{k:Key}(h:(qk kvs k).isSome=true):z36 kvs k v=z9b k v kvs:=by
 unfold z36;rw[z2w,h,_g rfl]
theorem z59{k:Key}:∀{kvs:List (Key×V)},k∉kvs.map (·.1)->z9b k v kvs=kvs
 | [],_=>rfl | q::r,h=>by
  simp only[_l,_h,not_or]at h;simp only[z9b,_l];rw[_j (λz=>h.1 z.symm),show r.map _=r from z59 h.2]
theorem z2P{o:Obj}(g:∀ys ws,zq mg H Y ys ws->zq mg H' Y ys ws)(fz:∀b o ws,H b=some (.frz o (.lst ws))->H' b=some (.frz o (.lst ws)))(dn:zq mg H' Y (ys++[d]) vs)(hp:H' p=some (.frz o (.lst vs))): ∀{xs:List D}{kvs:List (Key×V)},wM mg H Y xs kvs->(∀q b ws,(q,V.ref b)∈kvs->H b=some (.lst ws)->H' b=some (.lst ws))->(kvs.map (·.1)).Nodup->yL k xs=some (some (ys,true))->wM mg H' Y (z74 k d xs) (z9b (.inl k) (.ref p) kvs)
 | [],kvs,h,_,_,q=>by simp[yL]at q | x::xs,kvs,h,ho,nd,q=>by
  obtain⟨i,zs,c,ws,r,rfl,h1,h2,h3⟩:=h;simp only[_l,_a4]at nd;rcases h2 with⟨rfl,hc⟩ | ⟨rfl,o',hc⟩
  ·simp only[yL]at q;split at q;·simp at q
   ·rename_i ne;simp only[z74,z9b,_l];rw[_j (kX ne)];exact⟨i,zs,c,ws,_,rfl,g _ _ h1,.inl ⟨rfl,ho _ _ _ (.head _) hc⟩,z2P g fz dn hp h3 (λq b ws hm=>ho q b ws (.tail _ hm)) nd.2 q⟩
  ·simp only[yL]at q;split at q
   ·rename_i ei;subst ei;cases q;simp only[z74,z9b,_l];rw[_g trivial,_g trivial,show r.map _=r from z59 nd.1];exact⟨i,ys++[d],p,vs,r,rfl,dn,.inr ⟨rfl,o,hp⟩,h3.imp (λ_ _ _ _ z=>g _ _ z) (λk' b' ws' hm z=>ho k' b' ws' (.tail _ hm) z) fz⟩
   ·rename_i ne;simp only[z74,z9b,_l];rw[_j ne,_j (kX ne)];exact⟨i,zs,c,ws,_,rfl,g _ _ h1,.inr ⟨rfl,o',fz _ _ _ hc⟩,z2P g fz dn hp h3 (λq b ws hm=>ho q b ws (.tail _ hm)) nd.2 q⟩
theorem z7D{k:Key}:∀{kvs:List (Key×V)}{v0:V},(kvs.map (·.1)).Nodup->qk kvs k=some v0->∃j0,∀(i:Nat) q b,(z9b k (.ref p) kvs)[i]? = some (q,V.ref b)->(b=p/\i=j0)\/kvs[i]? = some (q,V.ref b)
 | [],_,_,h=>by simp[z5G]at h | q0::r,v0,nd,h=>by
  simp only[_l,_a4]at nd;by_cases e:q0.1=k
  ·refine⟨0,λi q b hi=>?_⟩;simp only[z9b,_l]at hi;rw[_g e,show r.map _=r from z59 (by rw[<- e];exact nd.1)]at hi;cases i with
   | zero=>simp only[_av,_D,_aX]at hi;injection hi.2 with z;exact .inl ⟨z.symm,rfl⟩ | succ i=>exact .inr (by simpa using hi)
  ·rw[yI e]at h;obtain⟨j0,hj⟩:=z7D nd.2 h;refine⟨j0+1,λi q b hi=>?_⟩;simp only[z9b,_l]at hi;rw[_j e]at hi;cases i with
   | zero=>exact .inr (by simpa using hi) | succ i=>exact (hj i q b (by simpa using hi)).imp (λ⟨z1,z2⟩=>⟨z1,by omega⟩) λz=>by simpa using z
theorem z1g(hd:d.flat=true):∀{xs:List D},D.flat.flats xs=true->D.flat.flats (z74 k d xs)=true
 | [],h=>by simpa[z74] using h | x::xs,h=>by
  simp only[D.flat.flats,_p]at h;unfold z74;split
  ·rename_i i ys t e;cases e;split
   ·simp only[D.flat.flats,D.flat,_bA,_aG,_p]at h ⊢;exact⟨xp h.1 (by simp[D.flat.flats,hd]),h.2⟩
   ·simp only[D.flat.flats,_p];exact⟨h.1,z1g hd h.2⟩
  ·rename_i e;cases e;simp only[D.flat.flats,_p];exact⟨h.1,z1g hd h.2⟩
  ·rename_i e;cases e
end
abbrev zgf:R2:=λx y H Q=>∃l b xs zs,x=.ref l/\y=.ref b/\Rd H l (.lst xs)/\Rd H b (.lst zs)/\xs.length+zs.length<=sizeLine/\∀p,H p=none->Q (.ref p) (upd H p (.lst (xs++zs)))
abbrev zhL(jd jk:Nat):TE:=λO H Q=>z73 jd O H λx H1=>∃a,x=.ref a/\IsD H1 a/\z73 jk O H1 λy H2=>zfK zg0 O H2 λz H3=>∃kvs k,z6Q H3 a kvs/\y=kV k/\Q ((qk kvs k).getD z) H3
abbrev zed(jd jk jx:Nat):TS:=λD O H=>tOp zgf (zhL jd jk) (zfK (ze3 (z73 jx) zg0)) O H (z5D λv H1=>z73 jd O H1 λx H2=>z73 jk O H2 λy H3=>∃a kvs k,x=.ref a/\z6Q H3 a kvs/\kvs.length<sizeLine/\y=kV k/\((kvs.map (·.1)).Nodup->D.nx O (upd H3 a (.dK (z36 kvs k v)))))
noncomputable def z6T(jd jk jx:Nat):FS:=fun ρ s=>match ρ[jd]?,ρ[jk]?,ρ[jx]? with
 | some (some (.dlo l)),some (some (.int k)),some (some d)=>match s[l]? with
  | some xs=>match yL k xs with
   | some none=>if d.flat=true/\xs.length<cap then .ok (.nx ρ) (s.set l (xs++[.tup [.int k,.lst [d],.non]])) else .no | some (some (ys,true))=>if d.flat=true/\ys.length<cap/\xs.length<cap then .ok (.nx ρ) (s.set l (z74 k d xs)) else .no | _=>.no
  | none=>.no
 | _,_,_=>.no
section
variable {X:Cx}{E:XK}{o1 o2 k1 k2 x:Expr}{pos pos' ap cp lp lp2 bp:Pos}
theorem zcp {jd jk jx:Nat} (ho1:PE X o1 (z73 jd)) (ho2:PE X o2 (z73 jd)) (hk1:PE X k1 (z73 jk)) (hk2:PE X k2 (z73 jk)) (hx:PE X x (z73 jx)) (m:M2 X o2 "get" ap k2 (.List [] lp) cp) (hst:starEach [x] X.env=(false,eval x X.env)::starEach [] X.env) (hs:swapsWith (.BinOp (.Call (.Attribute o2 "get" ap) [k2,.List [] lp] [] cp) .Add (.List [x] lp2) bp) (some (.Subscript o1 k1 pos')) pos.line X.env=pure false): RS X E (.Assign [.Subscript o1 k1 pos'] (.BinOp (.Call (.Attribute o2 "get" ap) [k2,.List [] lp] [] cp) .Add (.List [x] lp2) bp) pos) (z6T jd jk jx):= vy (z9V ho1 hk1 (PE.freeze (zdo z7b (zae ho2 hk2 (z22 jy) m) (z22 (qj hx jy hst)))) hs) λDn O H ⟨Y,ρ,s,r,en,h⟩=>show zed jd jk jx Dn O H from by
  unfold z6T at h;split at h
  ·rename_i l k d hjd hjk hjx;obtain⟨vd,sd,dd⟩:=en.at_ jd _ hjd;obtain⟨vk,sk,dk⟩:=en.at_ jk _ hjk;obtain⟨vx,sx,dx⟩:=en.at_ jx _ hjx;cases yb dk;simp only[Den]at dd;obtain⟨a,rfl,e1,ka⟩:=dd;have hai:a∈Y:=_d e1;split at h
   ·rename_i xs ex;have main:∀(kvs:List (Key×V)) (ws0:List V) (ys0 xs':List D),z6Q H a kvs->kvs.length<sizeLine->ws0.length+1<=sizeLine-> (∀p0,H p0=none->Rd (upd H p0 (.lst [])) (match (qk kvs (.inl k)).getD (.ref p0) with | .ref b=>b | _=>0) (.lst ws0)/\∃b,(qk kvs (.inl k)).getD (.ref p0)=.ref b)->zq (gm X) H Y ys0 ws0-> ((kvs=[]/\xs=[]/\H a=some (.dT []))\/(kvs≠[]/\H a=some (.dK kvs)/\wM (gm X) H Y xs kvs))-> D.flat.flats xs'=true-> ((kvs.map (·.1)).Nodup->∀p:Addr,∃j0,∀(i:Nat) q b,(z36 kvs (.inl k) (.ref p))[i]? = some (q,V.ref b)->(b=p/\i=j0)\/kvs[i]? = some (q,V.ref b))-> (∀H1 H' p o,(kvs.map (·.1)).Nodup->(∀ys ws,zq (gm X) H1 Y ys ws->zq (gm X) H' Y ys ws)->(∀b o ws,H1 b=some (.frz o (.lst ws))->H' b=some (.frz o (.lst ws)))->(∀q b ws,(q,V.ref b)∈kvs->H1 b=some (.lst ws)->H' b=some (.lst ws))->(kvs=[]/\xs=[]\/wM (gm X) H1 Y xs kvs)->zq (gm X) H1 Y (ys0++[d]) (ws0++[vx])->H' p=some (.frz o (.lst (ws0++[vx])))->wM (gm X) H' Y xs' (z36 kvs (.inl k) (.ref p)))-> okR (gm X) E H Y (FlD (gm X)) (.ok (.nx ρ) (s.set l xs')) (z52 Dn)->zed jd jk jx Dn O H:=by
     intro kvs ws0 ys0 xs' hD hl hl1 hgot dy hcell fx hpr hdk h;have notp:∀{q p},yw (gm X) H Y q Y s->q p=none->a≠p:=λst z y=>st.rep.notin z (y ▸ hai);refine⟨_,sd,a,rfl,zeM ka,_,sk,by simp,λp0 hp0=>⟨kvs,.inl k,?_,rfl,?_⟩⟩
     ·have:a≠p0:=λz=>r.notin hp0 (z ▸ hai);exact hD.imp (λq=>by rw[zg this];exact q) λ⟨z,q⟩=>⟨z,by rw[zg this];exact q⟩
     ·have st0:yw (gm X) H Y (upd H p0 (.lst [])) Y s:=yw.layP r hp0;obtain⟨rd,b,eb⟩:=hgot p0 hp0;rw[eb]at rd ⊢;refine⟨vx,sx,(by rw[_bB];decide),λp1 hp1=>?_⟩;have st1:yw (gm X) H Y (upd (upd H p0 (.lst [])) p1 (.lst [vx])) Y s:=st0.trans (yw.layP st0.rep hp1);have rd1:Rd (upd (upd H p0 (.lst [])) p1 (.lst [vx])) b (.lst ws0):=by
       have bp:b≠p1:=λz=>by subst z;rcases rd with q | ⟨_,q⟩<;>rw[hp1]at q<;>cases q
       exact rd.imp (λq=>by rw[zg bp];exact q) λ⟨o,q⟩=>⟨o,by rw[zg bp];exact q⟩
      refine⟨b,p1,ws0,[vx],rfl,rfl,rd1,.inl zu,by simpa using hl1,λp2 hp2=>⟨p2,_,rfl,zu,λo=>?_⟩⟩;rw[z4M];have a0:a≠p0:=λz=>r.notin hp0 (z ▸ hai);have a1:a≠p1:=λz=>st0.rep.notin hp1 (z ▸ hai);have a2:a≠p2:=λz=>st1.rep.notin hp2 (z ▸ hai);have up:∀{q},H a=some q->upd (upd (upd H p0 (.lst [])) p1 (.lst [vx])) p2 (.frz o (.lst (ws0++[vx]))) a=some q:=λ{q} z=>by rw[zg a2,zg a1,zg a0];exact z
      have up1:∀{q},H a=some q->upd (upd H p0 (.lst [])) p1 (.lst [vx]) a=some q:=λ{q} z=>by rw[zg a1,zg a0];exact z
      refine⟨_,sd,_,sk,a,kvs,.inl k,rfl,hD.imp up λ⟨z,q⟩=>⟨z,up q⟩,hl,rfl,λnd=>?_⟩;generalize upd (upd H p0 (.lst [])) p1 (.lst [vx])=H1 at st1 hp2 up1;have cell1:(kvs=[]/\xs=[]/\H1 a=some (.dT []))\/(kvs≠[]/\H1 a=some (.dK kvs)/\wM (gm X) H1 Y xs kvs):=by
       rcases hcell with⟨z1,z2,z3⟩ | ⟨n,z1,z2⟩;·exact .inl ⟨z1,z2,up1 z3⟩
       ·refine .inr ⟨n,up1 z1,?_⟩;rcases st1.rep.dic ex e1 (.inr (.inr (.inl ⟨_,n,up1 z1⟩))) with⟨_,z,_⟩ | ⟨_,_,_,z,_⟩ | ⟨kvs',_,z,q⟩ | ⟨_,_,_,z,_⟩;·rw[up1 z1]at z;cases z
        ·rw[up1 z1]at z;cases z
        ·rw[up1 z1]at z;cases z;exact q
        ·rw[up1 z1]at z;cases z
      obtain⟨j0,hj⟩:=hpr nd p2;have ne:z36 kvs (.inl k) (.ref p2)≠[]:=by
       unfold z36;split
       ·rename_i q;intro z;rw[List.map_eq_nil_iff]at z;subst z;simp at q
       ·simp
      have st2:=yw.dk (l:=l) (xs':=xs') (u:=.frz o (.lst (ws0++[vx]))) (kvs':=z36 kvs (.inl k) (.ref p2)) (j0:=j0) st1.rep e1 ex hp2 cell1 (by intro _ z;cases z) hj ne fx λH' _ g1 g2 g3 g4=> hdk H1 H' p2 o nd g1 g3 g2 (cell1.imp (λq=>⟨q.1,q.2.1⟩) λq=>q.2.2) ((dy.mono st1).append (zq.one (dx.mono st1))) g4;have stp:=st1.trans st2;exact h (.nx O) _ _ stp (en.mono stp)
    split at h
    ·rename_i hg;split at h
     ·rename_i hc;have key:∃kvs,z6Q H a kvs/\kvs.length=xs.length/\qk kvs (.inl k)=none/\((kvs=[]/\xs=[]/\H a=some (.dT []))\/(kvs≠[]/\H a=some (.dK kvs)/\wM (gm X) H Y xs kvs)):=by
       rcases z0w r ex e1 ka hg with⟨rfl,q⟩ | ⟨kvs,n,q1,q2⟩;·exact⟨[],.inr ⟨rfl,q⟩,rfl,rfl,.inl ⟨rfl,rfl,q⟩⟩
       ·exact⟨kvs,.inl q1,jz q2,jA q2 hg,.inr ⟨n,q1,q2⟩⟩
      obtain⟨kvs,hD,hlen,hnone,hcell⟩:=key;refine main kvs [] [] _ hD (by rw[hlen];exact z23 hc.2) (by decide) (λp0 hp0=>?_) zq.nil hcell (xp (r.flat xs (_d ex)) (by simp[D.flat.flats,D.flat,hc.1])) (λ_ p=>⟨kvs.length,λi q b g=>?_⟩) (λH1 H' p o nd g1 g2 g3 g4 g5 g6=>?_) h;·rw[hnone];exact⟨.inl zu,p0,rfl⟩
      ·rw[z2v _ hnone]at g;by_cases hi:i<kvs.length;·rw[_u hi]at g;exact .inr g
       ·rw[_Q (by omega)]at g;have:i-kvs.length=0:=by
         have:=(_b.mp g).1;simp at this;omega
        rw[this]at g;simp at g;exact .inl ⟨g.2.symm,by omega⟩
      ·rw[z2v _ hnone];refine z0Y ?_ ⟨k,[d],p,[vx],[],rfl,g1 _ _ g5,.inr ⟨rfl,o,g6⟩,rfl⟩;rcases g4 with⟨rfl,rfl⟩ | g4;·rfl
       ·exact g4.imp (λ_ _ _ _ z=>g1 _ _ z) g3 g2
     ·exact h.elim
    ·rename_i ys hg;split at h
     ·rename_i hc;rcases z0w r ex e1 ka hg with⟨rfl,q⟩ | ⟨kvs,n,q1,q2⟩;·simp[yL]at hg
      ·obtain⟨b,ws,g1,g2,_,g4⟩:=vW q2 hg;obtain⟨o',hb⟩:=g4 rfl;refine main kvs ws ys _ (.inl q1) (by rw[jz q2];exact z23 hc.2.2) (by rw[g2.length];exact z23 hc.2.1) (λp0 hp0=>?_) g2 (.inr ⟨n,q1,q2⟩) (z1g hc.1 (r.flat xs (_d ex))) (λnd p=>?_) (λH1 H' p o nd f1 f2 f3 f4 f5 f6=>?_) h
       ·rw[g1];have bp:b≠p0:=λz=>by rw[z,hp0]at hb;cases hb
        exact⟨.inr ⟨o',by rw[_cn];show upd H p0 (.lst []) b=_;rw[zg bp];exact hb⟩,b,rfl⟩
       ·rw[z5P (by rw[g1];rfl)];exact z7D nd g1
       ·rw[z5P (by rw[g1];rfl)];rcases f4 with⟨rfl,_⟩ | f4;·exact absurd rfl n
        ·exact z2P f1 f2 (f1 _ _ f5) f6 f4 f3 nd hg
     ·exact h.elim
    ·exact h.elim
   ·exact h.elim
  ·exact h.elim
theorem zdG(jd jk jx:Nat){d k x:Str}{p1 p2 p3 p4 p5:Pos}(hd:X.N[jd]? = some d:=by rfl)(hk:X.N[jk]? = some k:=by rfl)(hx:X.N[jx]? = some x:=by rfl) (vd:Vis X.env.scope d:=by first | exact Or.inl rfl | exact Or.inr (Or.inl rfl) | exact Or.inr (Or.inr rfl))(vk:Vis X.env.scope k:=by first | exact Or.inl rfl | exact Or.inr (Or.inl rfl) | exact Or.inr (Or.inr rfl))(vx:Vis X.env.scope x:=by first | exact Or.inl rfl | exact Or.inr (Or.inl rfl) | exact Or.inr (Or.inr rfl)) (d1:(d==("__debug__":Str))=false:=by decide)(d2:(d==("__classdict__":Str))=false:=by decide)(k1:(k==("__debug__":Str))=false:=by decide)(k2:(k==("__classdict__":Str))=false:=by decide)(x1:(x==("__debug__":Str))=false:=by decide)(x2:(x==("__classdict__":Str))=false:=by decide) (hbase:attributeBase (.Name d p3) "get" X.env (eval (.Name d p3) X.env)=eval (.Name d p3) X.env:=by rfl) (hfew:((backTo cp (starEach [.Name k p4,.List [] lp] X.env)).all (λx=>!x.1)&&(backToKw cp (keywordEach [] X.env)).all (λx=>x.1.isSome) && decide (([.Name k p4,.List [] lp]:List Expr).length+([]:List Keyword).length+(if ([]:List Keyword).isEmpty then 0 else 1)<30))=true:=by rfl) (hline:(ap.endLine==cp.line)=true:=by rfl)(htr:backTo cp (starEach [.Name k p4,.List [] lp] X.env)=[(false,eval (.Name k p4) X.env),(false,eval (.List [] lp) X.env)]:=by rfl) (hst:starEach [.Name x p5] X.env=(false,eval (.Name x p5) X.env)::starEach [] X.env:=by rfl) (hs:swapsWith (.BinOp (.Call (.Attribute (.Name d p3) "get" ap) [.Name k p4,.List [] lp] [] cp) .Add (.List [.Name x p5] lp2) bp) (some (.Subscript (.Name d p1) (.Name k p2) pos')) pos.line X.env=pure false:=by rfl): RS X E (.Assign [.Subscript (.Name d p1) (.Name k p2) pos'] (.BinOp (.Call (.Attribute (.Name d p3) "get" ap) [.Name k p4,.List [] lp] [] cp) .Add (.List [.Name x p5] lp2) bp) pos) (z6T jd jk jx):= zcp (kG hd vd d1 d2) (kG hd vd d1 d2) (kG hk vk k1 k2) (kG hk vk k1 k2) (kG hx vx x1 x2) ⟨hbase,hfew,hline,htr⟩ hst hs
end
end Dd
namespace L2
open Dd
noncomputable def zdC(a:Addr)(o:Obj)(kvs:List (Key×V)):It:= ⟨λi H=>H a=some (.frz o (.dK kvs))/\i<kvs.length,λi H x H'=>H'=H/\∃p,kvs[i]? = some p/\x=kV p.1,λi H=>H a=some (.frz o (.dK kvs))/\kvs.length<=i⟩
theorem zcN{k:Key}{v:Value}(h:z53 k v=true):yq (kV k) v:=by
 rcases yu h with⟨i,t,rfl,rfl⟩ | ⟨x,t,rfl,rfl⟩;·exact⟨t,rfl⟩
 ·exact⟨t,rfl⟩
theorem pairs_at{P:Program}{w:World}:∀{es:List DictEntry}{vs:List (Key×Value)}{kvs:List (Key×V)},Pairs (yJ P w) es vs->KV kvs vs->∀{i:Nat}{p:Key×V},kvs[i]? = some p->∃e,es[i]? = some e/\yq (kV p.1) e.key
 | _,_,_,.nil,.nil,i,p,h=>by simp at h | _,_,_,.cons h1 h2 t,.cons q r,0,p,h=>by
  simp only[_av,_D]at h;subst h;exact⟨_,rfl,zcN (by rw[q.1];exact h1)⟩ | _,_,_,.cons h1 h2 t,.cons q r,i+1,p,h=>by simpa using pairs_at t r (i:=i) (by simpa using h)
theorem z7A{P:Program}{w:World}{K:W.Frag}{tg:Expr}(a it:Addr){o:Obj}{es:Array DictEntry}{ep:Nat}(ho:o.data=.dict es ep)(kvs:List (Key×V)):zaY P w K tg (zdC a o kvs) [it] it (λi h=>h.IsKeyIter it a i es.size ep) where
 mem:=by simp
 obj:=λi h st b hb=>by
  have e:b=it:=by simpa using hb
  subst e;obtain⟨o,e,c,d⟩:=st;exact⟨o,e,λv z=>by rw[d]at z;cases z⟩
 keep:=λi h h' st k=>st.at λo e=>k it (by simp) o e;item:=by
  intro X hP hw hK hc i pins s O H E I hf st hg;subst hP hw hK;obtain⟨ha,hi⟩:=hg;obtain⟨h0,z,lo,vs,rel,o',es',ep',h1,h2,h3,h4,h5,nd⟩:=(show yN X.prog X.w H s.heap a (.frz o (.dK kvs)) from I.hok a _ ha);rw[h0]at h1;cases h1;rw[ho]at h3;cases h3;obtain⟨p,hp⟩:∃p,kvs[i]? = some p:=⟨kvs[i],_n hi⟩;obtain⟨e,he,re⟩:=pairs_at h5 rel hp;obtain⟨f0,f1,f2,f3,f4,f5⟩:=hf it (by simp);have he:es[i]? = some e:=by simpa using he
  refine z9i st h0 ho he λh' st' sb=>?_;have I1:Inv X pins O H {s with heap:=h'}:=I.turned (t':=s.toks) (λb o hb e=>(sb.2 b hb).trans e) f0 f1 f3 f4 f5;obtain⟨o2,e2,c,d⟩:=id st';exact⟨_,rfl,z9o (s:={s with heap:=h'}) e2 c d (by decide) ⟨kV p.1,H,I1,re,⟨rfl,p,hp,rfl⟩,st',λb hb=>(hf b hb).1⟩⟩
 done:=by
  intro X hP hw hK hc i pins s O H E I hf st hg;subst hP hw hK;obtain⟨ha,hi⟩:=hg;obtain⟨h0,z,lo,vs,rel,o',es',ep',h1,h2,h3,h4,h5,nd⟩:=(show yN X.prog X.w H s.heap a (.frz o (.dK kvs)) from I.hok a _ ha);rw[h0]at h1;cases h1;rw[ho]at h3;cases h3;have hl:vs.length=kvs.length:=(_dg rel).symm;have hsz:es.size=vs.length:=by rw[<- h5.length,_V]
  obtain⟨f0,f1,f2,f3,f4,f5⟩:=hf it (by simp);exact zbG (I.ok.hd hc) st h0 ho (by simp;omega) λh' eb=>⟨rfl,I.turned (t':=s.toks) (λb o hb e=>eb b o hb e) f0 f1 f3 f4 f5⟩
 self:=λ_ _ _ _ _ st hQ=>wpAny_pyIter_keyiter st hQ
theorem zbx{X:Cx}{tg l:Expr}{tl:TE}(hl:PE X l tl):PI X tg l (λO H R=>tl O H λx H1=>∃a kvs,x=.ref a/\((H1 a=some (.dK kvs)/\∀o,R (zdC a o kvs) (upd H1 a (.frz o (.dK kvs))))\/∃o,H1 a=some (.frz o (.dK kvs))/\R (zdC a o kvs) H1)):=by
 intro pins s O H R I h;refine thn (hl pins s O H _ I h) λv s1 ⟨x,H1,I1,r1,q1⟩=>?_;obtain⟨a,kvs,e,q⟩:=q1;subst e;cases r1;have fin:∀(o:Obj)(H2:Hp),Inv X pins O H2 s1->H2 a=some (.frz o (.dK kvs))->R (zdC a o kvs) H2->wpAny (model X.prog X.w) X.A (pyIter (.ref a)) (PIE X pins O tg R) X.xe s1:=λo H2 I2 ha q=>by
  obtain⟨h0,z,lo,vs,rel,o',es,ep,h1,h2,h3,h4,h5,nd⟩:=(show yN X.prog X.w H2 s1.heap a (.frz o (.dK kvs)) from I2.hok a _ ha);rw[h0]at h1;cases h1;refine zap lo ⟨o,h0,h2,h3⟩ ?_;refine⟨s1.heap.objs.size,[s1.heap.objs.size],_,_,H2,rfl,I2.kept (t':=s1.toks) λb o e=>_e _ e,z7A a _ h3 kvs,⟨_,_t _ rfl,rfl,rfl⟩,λb hb=>?_,q⟩;have e:b=s1.heap.objs.size:=by simpa using hb
  subst e;exact I2.fpOk (_f _) (I2.hok.fresh (_f _))
 rcases q with⟨ha,q⟩ | ⟨o,ha,q⟩
 ·obtain⟨_,_,vs,_,o,es,ep,h1,_⟩:=(show yN X.prog X.w H1 s1.heap a (.dK kvs) from I1.hok a _ ha);exact fin o _ (I1.freeze ha h1 (by intro _ z;cases z) (by intro _ _ z;cases z) (by intro _ z;cases z) (by intro _ z;cases z)) zu (q o)
 ·exact fin o H1 I1 ha q
end L2
namespace Dd
open L2
noncomputable def jR:List D->Option (List Int)
 | []=>some [] | .tup [.int i,.lst _,.non]::t=>(jR t).map (i::·) | _=>none
theorem z5V:∀{xs:List D}{ks:List Int},jR xs=some ks->z9H xs
 | [],_,_=>λd hd=>by cases hd | x::xs,ks,h=>by
  unfold jR at h;split at h;·rename_i e;cases e
  ·rename_i i ys t e;cases e;obtain⟨ks',h',rfl⟩:=_A.mp h;intro d hd;rcases _h.mp hd with rfl | hd;·exact⟨_,_,rfl⟩
   ·exact z5V h' d hd
  ·cases h
theorem z3V{mg:Gm}{H:Hp}{Y:List Addr}:∀{xs:List D}{ks:List Int}{kvs:List (Key×V)},jR xs=some ks->wM mg H Y xs kvs->kvs.map (·.1)=ks.map Sum.inl
 | [],ks,kvs,h,d=>by simp only[wM]at d;subst d;simp only[jR,_D]at h;subst h;rfl | x::xs,ks,kvs,h,d=>by
  obtain⟨k,ys,b,vs,r,rfl,h1,h2,h3⟩:=d;rcases h2 with⟨rfl,_⟩ | ⟨rfl,_⟩;·simp[jR]at h
  ·simp only[jR]at h;obtain⟨ks',h',rfl⟩:=_A.mp h;simp[z3V h' h3]
theorem Kp.frzK{H:Hp}{a:Addr}{kvs:List (Key×V)}{o:Obj}(e:H a=some (.dK kvs))(n:kvs≠[]):Kp H (upd H a (.frz o (.dK kvs))):=by
 have ne:∀{b u},H b=some u->(∀kvs,kvs≠[]->u≠.dK kvs)->b≠a:=λ{b u} q g z=>by subst z;rw[e]at q;exact g kvs n (_v q).symm
 refine⟨λb o q n1 n2 n3=>by rw[zg (ne q n3)];exact q,λb ⟨us,q⟩=>⟨us,by rw[zg (ne q (by intro _ _ z;cases z))];exact q⟩,λb h=>?_⟩;by_cases z:b=a
 ·subst z;exact .inr (.inr (.inr ⟨o,kvs,zu⟩))
 ·rw[IsC,zg z];exact h
section
variable {X:Cx}{E:XK}{e tg o i:Expr}{pos:Pos}
noncomputable def z1T(f:FE):FI:=fun ρ s=>(f ρ s).bind λd s1=>match d with
 | .dlo l=>match s1[l]? with
  | some (x::xs)=>match jR (x::xs) with
   | some ks=>.ok (ks.map D.int,[]) (s1.set l (.non::x::xs)) | none=>.no
  | _=>.no
 | _=>.no
theorem zeL {f:FE} (h:RE X E e f):RI X E tg e (z1T f):=z3p (zbx h) λO H Q ⟨Y,ρ,s,r,en,h⟩=>by
 unfold z1T at h;refine⟨Y,ρ,s,r,en,(okR.bind (Dn:=Den (gm X)) h).imp λv H1 ⟨Y1,s1,d,stp,dn,h1⟩=>?_⟩;split at h1
 ·rename_i l;split at h1
  ·rename_i x xs ex;split at h1
   ·rename_i ks ek;simp only[Den]at dn;obtain⟨a,rfl,e1,ka⟩:=dn;have cell:∃kvs,kvs≠[]/\H1 a=some (.dK kvs)/\wM (gm X) H1 Y1 (x::xs) kvs:=by
     rcases stp.rep.dic ex e1 ka with⟨kvs,q1,q2⟩ | ⟨o,kvs,ys,q1,q3,q2⟩ | q | ⟨o,kvs,ys,q1,q3,q2⟩
     ·simp only[z9a]at q2;obtain⟨k,v,y,r,rfl,h1,rfl,h2⟩:=q2;simp[jR]at ek
     ·cases q3;simp[jR]at ek
     ·exact q
     ·cases q3;simp[jR]at ek
    obtain⟨kvs,n,ha,dk⟩:=cell;have fz:=z5V ek;have kk:=z3V ek dk;have hkl:ks.length=kvs.length:=by rw[<- _o (f:=(Sum.inl:Int->Key)) (as:=ks),<- kk,_o]
    have ok:∀(o:Obj) (H2:Hp) (Y2:List Addr),H2 a=some (.frz o (.dK kvs))->z97 (gm X) H2 Y2 (ks.map D.int,[]) (zdC a o kvs):=λo H2 Y2 ha H3 Y3 s3 stp3 _ i=>by
     have ha3:=stp3.stay ha (by intro _ z;cases z);refine⟨λd hd=>?_,λhl=>⟨ha3,by simpa[hkl] using hl⟩⟩;have hi:i<kvs.length:=by have:=(_b.mp hd).1;simpa[hkl] using this
     refine⟨⟨ha3,hi⟩,λx H' ⟨e3,p,hp,ex⟩=>?_⟩;subst e3 ex;have hk:(kvs.map (·.1))[i]? = some p.1:=by rw[_R,hp];rfl
     rw[kk,_R]at hk;obtain⟨j,hj,ej⟩:=_A.mp hk;have:d=.int j:=by
      have hd:(ks.map D.int)[i]? = some d:=hd;rw[_R,hj]at hd;exact (_v hd).symm
     subst this;refine⟨Y3,.refl stp3.rep,?_⟩;rw[<- ej];exact yW
    refine⟨a,kvs,rfl,.inl ⟨ha,λo=>?_⟩⟩;have kp:Kp H1 (upd H1 a (.frz o (.dK kvs))):=.frzK ha n;have fzs:∀c o' ws,H1 c=some (.frz o' (.lst ws))->upd H1 a (.frz o (.dK kvs)) c=some (.frz o' (.lst ws)):=λc o' ws q=>kp.k c _ q (by intro _ z;cases z) (by intro _ z;cases z) (by intro _ _ z;cases z);have stp2:=yw.putC (l:=l) (o:=.frz o (.dK kvs)) (xs:=.non::x::xs) stp.rep e1 kp (.inr (.inr (.inr (.inr ⟨o,kvs,x::xs,zu,rfl,dk.imp (λ_ _ _ _ q=>q.gen kp λ_ _ q=>q) (λq c' ws hm z=>(dk.fz fz hm z).elim) fzs,fz,n⟩)))) (by simpa[D.flat.flats,D.flat] using stp.rep.flat _ (_d ex));exact h1 _ _ _ stp2 (ok o _ _ zu)
   ·exact h1.elim
  ·exact h1.elim
 ·exact h1.elim
noncomputable def z6X(s:Sto)(o kd:D):Option (List D):=match o,kd with
 | .dlo l,.int k=>match s[l]? with
  | some (.non::ys)=>match yL k ys with
   | some (some (zs,true))=>some zs | _=>none
  | _=>none
 | _,_=>none
noncomputable def kT(fo fk:FE):FE:=fun ρ s=>(fo ρ s).bind λo s1=>(fk ρ s1).bind λkd s2=>match z6X s2 o kd with
 | some zs=>.ok (.lst zs) s2 | none=>.no
theorem z7d{fo fk:FE}(hu:X.A.units+64<cLine)(ho:RE X E o fo)(hi:RE X E i fk)(hs:zgd i:=by intro _ _;rfl):RE X E (.Subscript o i pos) (kT fo fk):= yh (zbv (by omega) ho hi hs) λO H Q ⟨Y,ρ,s,r,en,h⟩=>by
  unfold kT at h;refine yd (k:=fun ρ o s1=>(fk ρ s1).bind λkd s2=>match z6X s2 o kd with | some zs=>R.ok (D.lst zs) s2 | none=>.no) r en h _ λv H1 Y1 s1 d r1 en1 dn stp h1=>?_;refine yd (k:=fun ρ kd s2=>match z6X s2 d kd with | some zs=>R.ok (D.lst zs) s2 | none=>.no) r1 en1 h1 _ λv2 H2 Y2 s2 kd r2 en2 dn2 stp2 h2=>?_;split at h2
  ·rename_i zs ez;have dn':=dn.mono stp2;unfold z6X at ez;split at ez
   ·rename_i l k;split at ez
    ·rename_i ys ex;split at ez
     ·rename_i zs' hg;cases ez;cases yb dn2;simp only[Den]at dn';obtain⟨a,rfl,e1,ka⟩:=dn';have cell:∃ob kvs,H2 a=some (.frz ob (.dK kvs))/\wM (gm X) H2 Y2 ys kvs:=by
       rcases r2.dic ex e1 ka with⟨kvs,q1,q2⟩ | ⟨o,kvs,ys',q1,q3,q2⟩ | ⟨kvs,n,q1,q2⟩ | ⟨o,kvs,ys',q1,q3,q2,_⟩
       ·simp only[z9a]at q2;obtain⟨k,v,y,r,rfl,h1,z,h2⟩:=q2;cases z
       ·cases q3;cases ys with
        | nil=>simp[yL]at hg | cons y ys=>
         simp only[z9a]at q2;obtain⟨k,v,y,r,rfl,h1,rfl,h2⟩:=q2;simp[yL]at hg
       ·obtain⟨k,ys,b,vs,r,rfl,h1,h2,h3⟩:=q2;rcases h2 with⟨z,_⟩ | ⟨z,_⟩<;>cases z
       ·cases q3;exact⟨o,kvs,q1,q2⟩
      obtain⟨ob,kvs,q1,q2⟩:=cell;obtain⟨b,ws,g1,g2,_,g4⟩:=vW q2 hg;obtain⟨o',hb⟩:=g4 rfl;refine⟨a,.ref b,rfl,.inl ⟨kvs,.inl k,.inr ⟨ob,q1⟩,rfl,g1.symm⟩,h2.here r2 ?_⟩;simp only[Den];exact⟨b,o',ws,rfl,hb,g2⟩
     ·cases ez
    ·cases ez
   ·cases ez
  ·exact h2.elim
end
open PySem.W Dt Pm
abbrev NQ:=List Int×List Int
noncomputable def yk(p q:NQ):Bool:=if p.1=q.1 then lexN p.2 q.2 else lexN p.1 q.1
theorem yx:vo yk:=by
 refine⟨λa=>by simp[yk,xX],λa b h=>?_,λa b c h1 h2=>?_⟩
 ·unfold yk;by_cases e:a.1=b.1
  ·rw[_g e,_g e.symm];exact qI λz=>h (_cW e z)
  ·rw[_j e,_j (λz=>e z.symm)];exact qI e
 ·unfold yk at *;by_cases e1:a.1=b.1
  ·rw[_g e1]at h1;by_cases e2:b.1=c.1
   ·rw[_g e2]at h2;rw[_g (e1.trans e2)];exact z0M h1 h2
   ·rw[_j e2]at h2;rw[_j (λz=>e2 (e1.symm.trans z)),e1];exact h2
  ·rw[_j e1]at h1;by_cases e2:b.1=c.1
   ·rw[_j (λz=>e1 (z.trans e2.symm)),<- e2];exact h1
   ·rw[_j e2]at h2;have h3:=z0M h1 h2;rw[_j (λz=>by rw[z,xX]at h3;cases h3)];exact h3
section
variable {prog:Program}{w:World}{A:Around}{E:Value->Shared->Prop}{s:Shared}
structure QQ(A:Around)(s:Shared)(a b:Addr)(p q:NQ):Prop where
 is:∃c d c' d' us ws us' ws',s.heap.IsTuple a #[.ref c,.ref d]/\s.heap.IsTuple b #[.ref c',.ref d']/\s.heap.IsTuple c us/\s.heap.IsTuple c' us'/\s.heap.IsTuple d ws/\s.heap.IsTuple d' ws'/\yy us.toList p.1/\yy us'.toList q.1/\yy ws.toList p.2/\yy ws'.toList q.2/\ SeqAt.EqAt A s (.ref c) (.ref c') (decide (p.1=q.1))/\SeqAt.EqAt A s (.ref d) (.ref d') (decide (p.2=q.2))
theorem z66{a b:Addr}{p q:NQ}{P:PySem.Fin->Shared->Prop}(hu:A.units+1<cLine)(z:QQ A s a b p q)(h:P (.done (.ret (.bool (yk p q)))) s):wpAny (model prog w) A (Builtin.«tuple.__lt__» ⟨[.ref a,.ref b],[]⟩) P E s:=by
 obtain⟨c,d,c',d',us,ws,us',ws',⟨oa,ga,ca,na,da⟩,⟨ob,gb,cb,nb,db⟩,t1,t2,t3,t4,i1,i2,i3,i4,e1,e2⟩:=z.is;have tb:s.TypeIs (.ref b) "tuple":=⟨ob,gb,cb⟩;show wpAny _ _ (isInstance (.ref b) (.type "tuple") >>= _) _ _ s;refine _a (_cm tb isSubtype_tuple_tuple ?_);simp only[_bn,_B,_ab];refine _a (_bS ga da (_a (_bS gb db (_a ?_))));refine _do _ (λz0h r s'=>r.1=none/\s'=s/\(z0h=[(Value.ref c,Value.ref c'),(.ref d,.ref d')]\/(z0h=[(.ref d,.ref d')]/\p.1=q.1)\/(z0h=[]/\p.1=q.1/\p.2=q.2))) _ ?_ ?_ _ _ ⟨rfl,rfl,.inl rfl⟩
 ·rintro⟨u,v⟩ z0h r s' ⟨hr,rfl,hz⟩;rcases hz with hz | ⟨hz,e⟩ | ⟨hz,_⟩
  ·simp only[_aS,_aX]at hz;obtain⟨⟨rfl,rfl⟩,rfl⟩:=hz;refine _a (e1 _ _ _ _ ?_);by_cases e:p.1=q.1
   ·rw[_aa e];simp only[_bn,_B,_ab];exact _c ⟨rfl,rfl,.inr (.inl ⟨trivial,e⟩)⟩
   ·rw[_O e];simp only[_c2,_N];have hf:yk p q=lexN p.1 q.1:=_j e;rw[hf]at h;refine _a (_at (_a (show wpAny _ _ (compareOp .Lt (.ref c) (.ref c')) _ _ _ from z62 (by omega) t1 t2 i1 i2 ?_)));exact _a (_c (_c (_c h)))
  ·simp only[_aS,_aX]at hz;obtain⟨⟨rfl,rfl⟩,rfl⟩:=hz;refine _a (e2 _ _ _ _ ?_);by_cases e2:p.2=q.2
   ·rw[_aa e2];simp only[_bn,_B,_ab];exact _c ⟨rfl,rfl,.inr (.inr ⟨trivial,e,e2⟩)⟩
   ·rw[_O e2];simp only[_c2,_N];have hf:yk p q=lexN p.2 q.2:=_g e;rw[hf]at h;refine _a (_at (_a (show wpAny _ _ (compareOp .Lt (.ref d) (.ref d')) _ _ _ from z62 (by omega) t3 t4 i3 i4 ?_)));exact _a (_c (_c (_c h)))
  ·cases hz
 ·rintro⟨r1,r2⟩ s' ⟨hr,rfl,hz⟩;simp only at hr;subst hr;refine _c ?_;rcases hz with hz | ⟨hz,_⟩ | ⟨_,e1,e2⟩;·cases hz
  ·cases hz
  ·have hf:yk p q=false:=by rw[show p=q from _cW e1 e2];exact yx.irr q
   rw[hf]at h;exact h
theorem zgC{a b:Addr}{p q:NQ}{Q:Value->Shared->Prop}(hu:A.units+2<cLine)(z:QQ A.in1 s a b p q)(h:Q (.bool (yk p q)) s):wpAny (model prog w) A (richCompare .Lt (.ref a) (.ref b)) Q E s:=by
 obtain⟨c,d,c',d',us,ws,us',ws',⟨oa,ga,ca,_⟩,⟨ob,gb,cb,_⟩,_⟩:=z.is;have ta:s.TypeIs (.ref a) "tuple":=⟨oa,ga,ca⟩;have tb:s.TypeIs (.ref b) "tuple":=⟨ob,gb,cb⟩;refine wpAny_richCompare_same_room ta tb _bg (_af _bg ta _b3 ?_ (_bV _ _)) (by omega);exact z66 (by have:A.in1.units=A.units+1:=rfl;omega) z ⟨_,rfl,by simp,h⟩
theorem zeA{a b:Addr}{p q:NQ}{C:Bool->Shared->Prop}(hu:A.units+1<cLine)(z:QQ A s a b p q)(h:C (yk p q) s):wpAny (model prog w) A (keyLt' (tuples' false) (.ref a) (.ref b)) C E s:=by
 obtain⟨c,d,c',d',us,ws,us',ws',⟨oa,ga,ca,na,da⟩,⟨ob,gb,cb,nb,db⟩,t1,t2,t3,t4,i1,i2,i3,i4,e1,e2⟩:=z.is;refine kat_lt ga da gb db ?_;show KatLex prog w A false _ C [(Value.ref c,Value.ref c'),(.ref d,.ref d')] 0 s;refine kat_cons (e1 _ _ _ _ (kat_go (λe=>kat_yes (kat_cons (e2 _ _ _ _ (kat_go (λe'=>kat_yes (kat_nil ?_)) λe'=>kat_no ?_)))) λe=>kat_no ?_))
 ·have e:p.1=q.1:=by simpa using e
  have e':p.2=q.2:=by simpa using e'
  have hf:yk p q=false:=by rw[show p=q from _cW e e'];exact yx.irr q
  rw[hf]at h;simpa using h
 ·have e:p.1=q.1:=by simpa using e
  rw[show yk p q=lexN p.2 q.2 from _g e]at h;exact kat_one _ _ (show wpAny _ _ (compareOp .Lt (.ref d) (.ref d')) _ _ _ from z62 (by omega) t3 t4 i3 i4 h)
 ·have e:¬ p.1=q.1:=by simpa using e
  rw[show yk p q=lexN p.1 q.1 from _j e]at h;exact kat_one _ _ (show wpAny _ _ (compareOp .Lt (.ref c) (.ref c')) _ _ _ from z62 (by omega) t1 t2 i1 i2 h)
end
def AtQ(H:Hp)(v:V)(p:NQ):Prop:=∃b c d,v=.ref b/\H b=some (.tup [.ref c,.ref d])/\AtN H (.ref c) p.1/\AtN H (.ref d) p.2
section
variable {X:Cx}{E:XK}
theorem AtQ.tuple{pins:List (Addr×Obj)}{O:L2.St}{H:Hp}{s:Shared}(I:Inv X pins O H s){v:V}{u:Value}{p:NQ}(a:AtQ H v p)(r:yq v u):∃b c d us ws,u=.ref b/\AtN H (.ref c) p.1/\AtN H (.ref d) p.2/\s.heap.IsTuple b #[.ref c,.ref d]/\s.heap.IsTuple c us/\s.heap.IsTuple d ws/\yy us.toList p.1/\yy ws.toList p.2:=by
 obtain⟨b,c,d,rfl,e,e1,e2⟩:=a;cases (show u=Value.ref b from r);obtain⟨its,r,pl,hz⟩:=I.tuple (.inl (.inl e));obtain⟨c',us,z1,z2,z3,z4⟩:=e1.tuple I (show yq (.ref c) (.ref c) from rfl);obtain⟨d',ws,z5,z6,z7,z8⟩:=e2.tuple I (show yq (.ref d) (.ref d) from rfl);cases z1;cases z5;cases r with | cons h1 r=>cases r with | cons h2 r=>
   cases r;cases (show _=Value.ref c from h1);cases (show _=Value.ref d from h2);exact⟨b,c,d,us,ws,rfl,e1,e2,pl,z3,z7,z4,z8⟩
theorem AtQ.qq{pins:List (Addr×Obj)}{O:L2.St}{H:Hp}{s s3:Shared}{A:Around}(I:Inv X pins O H s)(kh:∀c o,s.heap.get? c=some o->s3.heap.get? c=some o)(hu:A.units+2<cLine){v v':V}{u u':Value}{p q:NQ}(a:AtQ H v p)(r:yq v u)(a':AtQ H v' q)(r':yq v' u'): ∃b b',u=.ref b/\u'=.ref b'/\QQ A s3 b b' p q:=by
 obtain⟨b,c,d,us,ws,rfl,n1,n2,x1,x2,x3,x4,x5⟩:=a.tuple I r;obtain⟨b',c',d',us',ws',rfl,n1',n2',x1',x2',x3',x4',x5'⟩:=a'.tuple I r';have up:∀{c:Addr}{its:Array Value},s.heap.IsTuple c its->s3.heap.IsTuple c its:=λ⟨o,g,w⟩=>⟨o,kh _ _ g,w⟩;have I3:HOk X.prog X.w H s3.heap:=λa o ha=>(I.hok a o ha).stay (λ_ _ _ q=>kh _ _ q) (λ_ q=>q) λ_ _ q=>q;exact⟨b,b',rfl,rfl,⟨c,d,c',d',us,ws,us',ws',up x1,up x1',up x2,up x2',up x3,up x3',x4,x4',x5,x5',AtN.eqAt (gm X) I3 hu n1 rfl n1' rfl,AtN.eqAt (gm X) I3 hu n2 rfl n2' rfl⟩⟩
end
noncomputable def z9C:D->Option NQ
 | .tup [.tup ds,.tup es]=>match z9c ds,z9c es with | some ns,some ms=>some (ns,ms) | _,_=>none
 | _=>none
noncomputable def qu:List D->Option (List NQ)
 | []=>some [] | d::ds=>match z9C d,qu ds with | some p,some ps=>some (p::ps) | _,_=>none
noncomputable def dQ(p:NQ):D:=.tup [.tup (p.1.map D.int),.tup (p.2.map D.int)]
theorem zcK(p:NQ):z9C (dQ p)=some p:=by simp[z9C,dQ,z2M]
theorem z2Z:∀L:List NQ,qu (L.map dQ)=some L
 | []=>rfl | p::L=>by simp only[_l,qu,zcK,z2Z L]
section
variable {mg:Gm}{H:Hp}{Y:List Addr}
theorem qG:∀{ds:List D}{vs:List V}{L:List NQ},qu ds=some L->zq mg H Y ds vs->Paired (λv p=>AtQ H v p) vs L
 | [],_,_,h,dn=>by simp only[qu,_D]at h;simp only[zq]at dn;subst dn;subst h;exact .nil | d::ds,_,_,h,dn=>by
  simp only[zq]at dn;obtain⟨v,vs,rfl,h1,h2⟩:=dn;simp only[qu]at h;split at h
  ·rename_i p ps e1 e2;cases h;refine .cons ?_ (qG e2 h2);unfold z9C at e1;split at e1
   ·rename_i fs es;split at e1
    ·rename_i ns ms en em;cases e1;simp only[Den]at h1;obtain⟨b,ws,rfl,hb,hd⟩:=h1;simp only[zq]at hd;obtain⟨v1,r1,rfl,d1,v2,r2,rfl,d2,rfl⟩:=hd;obtain⟨c,rfl,hc⟩:=z35 (show zbq (.tup fs)=some ns from en) (by simpa only [Den] using d1);obtain⟨c',rfl,hc'⟩:=z35 (show zbq (.tup es)=some ms from em) (by simpa only [Den] using d2);exact⟨b,c,c',rfl,hb,⟨c,rfl,hc⟩,⟨c',rfl,hc'⟩⟩
    ·cases e1
   ·cases e1
  ·cases h
theorem AtQ.den{v:V}{p:NQ}(a:AtQ H v p):Den mg H Y (dQ p) v:=by
 obtain⟨b,c,d,rfl,e,⟨c',z,hc⟩,⟨d',z',hd⟩⟩:=a;cases z;cases z';unfold dQ;simp only[Den];refine⟨b,_,rfl,e,zq.cons ?_ (zq.cons ?_ zq.nil)⟩;·simp only[Den];exact⟨c,_,rfl,hc,wI _⟩
 ·simp only[Den];exact⟨d,_,rfl,hd,wI _⟩
theorem zbf:∀{zs:List V}{ps:List NQ},Paired (λv p=>AtQ H v p) zs ps->zq mg H Y (ps.map dQ) zs
 | _,_,.nil=>zq.nil | _,_,.cons h r=>by
  simp only[_l,zq];exact⟨_,_,rfl,h.den,zbf r⟩
end
section
variable {X:Cx}{E:XK}
theorem zf1 {H:Hp}:∀{ys:List V} {its:List Value} {ps:List NQ},yF ys its->Paired (λv p=>AtQ H v p) ys ps->∃T:List (V×Value×NQ),T.map (λt=>t.2)=its.zip ps/\∀t∈T,yq t.1 t.2.1/\AtQ H t.1 t.2.2
 | _,_,_,.nil,.nil=>⟨[],rfl,λt h=>by cases h⟩ | _,_,_,.cons (a:=y) (b:=v) r rs,.cons (b:=p) a ps=>by
  obtain⟨T,h1,h2⟩:=zf1 rs ps;refine⟨(y,v,p)::T,by simp[h1],λt ht=>?_⟩;rcases _h.mp ht with rfl | ht;·exact⟨r,a⟩
  ·exact h2 t ht
theorem z1P{H:Hp}:∀{T:List (V×Value×NQ)},(∀t∈T,yq t.1 t.2.1/\AtQ H t.1 t.2.2)->yF (T.map Prod.fst) (T.map λt=>t.2.1)/\Paired (λv p=>AtQ H v p) (T.map Prod.fst) (T.map λt=>t.2.2)
 | [],_=>⟨.nil,.nil⟩ | t::T,h=>by
  obtain⟨h1,h2⟩:=z1P (T:=T) λt ht=>h t (.tail _ ht);exact⟨.cons (h t (.head _)).1 h1,.cons (h t (.head _)).2 h2⟩
theorem z7a {α β:Type}:∀{xs:List α} {ys:List β},xs.length=ys.length->(xs.zip ys).map Prod.fst=xs/\(xs.zip ys).map Prod.snd=ys
 | [],[],_=>⟨rfl,rfl⟩ | x::xs,y::ys,h=>by
  obtain⟨h1,h2⟩:=z7a (xs:=xs) (ys:=ys) (by simpa using h);exact⟨by simp[h1],by simp[h2]⟩
theorem AtQ.one{H:Hp}{v:V}{p q:NQ}(a:AtQ H v p)(b:AtQ H v q):p=q:=by
 obtain⟨x,c,d,rfl,e,⟨c1,z1,h1⟩,⟨d1,z2,h2⟩⟩:=a;obtain⟨y,c',d',z,e',⟨c2,z3,h3⟩,⟨d2,z4,h4⟩⟩:=b;cases z;rw[e]at e';cases e';cases z1;cases z2;cases z3;cases z4;have inj:∀{a b:List Int},a.map V.int=b.map V.int->a=b:=λ{a}=>by induction a with
  | nil=>intro b h;cases b with | nil=>rfl | cons _ _=>cases h
  | cons x a ih=>intro b h;cases b with
   | nil=>cases h | cons y b=>simp only[_l,_aS,V.int.injEq]at h;rw[h.1,ih h.2]
 rw[h1]at h3;rw[h2]at h4;injection h3 with h3;injection h4 with h4;injection h3 with h3;injection h4 with h4;exact _cW (inj h3) (inj h4)
def zdW(K:W.Frag):List V->Hp->VK->Prop:=λxs H Q=>∃(l:Addr)(ys:List V)(ps:List NQ),xs=[.ref l]/\SqL K H l ys/\Paired (λv p=>AtQ H v p) ys ps/\ ∀zs,Paired (λv p=>AtQ H v p) zs (zV yk ps)->∀r,H r=none->Q (.ref r) (upd H r (.lst zs))
theorem z7O{pins:List (Addr×Obj)}{O:L2.St}{H:Hp}{s s':Shared}(I:Inv X pins O H s)(k:∀b o,s.heap.get? b=some o->s'.heap.get? b=some o):∀{T:List (V×Value×NQ)},(∀t∈T,yq t.1 t.2.1/\AtQ H t.1 t.2.2)->∃fs,KatTups s'.heap (T.map λt=>t.2.1) fs/\fs.length=T.length/\∀v∈fs,∃c us,v=.ref c/\s'.heap.IsTuple c us
 | [],_=>⟨[],KatTups.nil,rfl,λv hv=>by cases hv⟩ | t::T,h=>by
  obtain⟨fs,k1,l,m⟩:=z7O I k (T:=T) λt ht=>h t (.tail _ ht);obtain⟨r,a⟩:=h t (.head _);obtain⟨b,c,d,us,ws,e,_,_,⟨o,g,cc,n,dd⟩,⟨o2,g2,w2⟩,_⟩:=a.tuple I r;refine⟨.ref c::fs,?_,by simp[l],λv hv=>?_⟩
  ·rw[_l,e];exact KatTups.cons (k _ _ g) cc dd rfl k1
  ·rcases _h.mp hv with rfl | hv;·exact⟨c,us,rfl,o2,k _ _ g2,w2⟩
   ·exact m v hv
theorem z6p (hu:X.A.units+64<cLine):xG X (.builtin "sorted") (zdW X.K):=by
 intro pins s O H xs us Q I r h;obtain⟨l,ys,ps,rfl,hq,hp,q⟩:=h;obtain⟨u,rfl,rx⟩:=vals1 r;cases rx;obtain⟨its,r',pl,hz⟩:=I.list hq;have hlen:=r'.length;have hpl:=jV hp;obtain⟨h1,h2⟩:=z7a (xs:=its) (ys:=ps) (by omega);obtain⟨T,t1,t2⟩:=zf1 r' hp;have lz:(its.zip ps).length=its.length:=by rw[<- _o (f:=Prod.fst) (as:=its.zip ps),h1]
 have mem:∀z∈its.zip ps,∃v,yq v z.1/\AtQ H v z.2:=λz hz=>by
  rw[<- t1]at hz;obtain⟨t,ht,rfl⟩:=_y.mp hz;exact⟨t.1,t2 t ht⟩
 have rel1:∀{v v':V} {u:Value} {p q:NQ},yq v u->AtQ H v p->yq v' u->AtQ H v' q->p=q:=λ{v v' u p q} r1 a1 r2 a2=>by
  obtain⟨b,c,d,rfl,e⟩:=id a1;obtain⟨b',c',d',rfl,e'⟩:=id a2;cases (show u=Value.ref b from r1);cases (show Value.ref b=Value.ref b' from r2);exact a1.one a2
 refine z24 yx ([],[]) (κ:=tuples' false) (Z:=its.zip ps) (λx hx y hy e=>?_) (by rw[h1];exact pl.isList) (λA' s' hA k=>⟨λQ E h0 q=>?_,λx hx y hy C E hc=>?_⟩) (by omega) λZ' pz pw=>?_
 ·obtain⟨v,r1,a1⟩:=mem x hx;obtain⟨v',r2,a2⟩:=mem y hy;rw[<- e]at r2;exact rel1 r1 a1 r2 a2
 ·obtain⟨fs,k1,l1,m1⟩:=z7O (s':=s') I k t2;have e1:T.map (λt=>t.2.1)=its:=by
   have:=_ba (List.map Prod.fst) t1;rw[_aI,h1]at this;exact this
  rw[e1]at k1;rw[h1];refine kat_kind (T:=.type "tuple") k1 ?_ (λv hv=>?_) rfl q;·rw[l1,<- _o (f:=λt:V×Value×NQ=>t.2) (as:=T),t1];exact h0
  ·obtain⟨c,us,rfl,o,g,cc,_⟩:=m1 v hv;exact cc ▸ (show Looks _ s'.heap (typeOf (.ref c)) o.cls from (Looks.ld g).andThen .now)
 ·obtain⟨v,r1,a1⟩:=mem x hx;obtain⟨v',r2,a2⟩:=mem y hy;obtain⟨b,b',e1,e2,z⟩:=AtQ.qq (A:=A') (s3:=s') I k (by omega) a1 r1 a2 r2;rw[e1,e2];exact zeA (by omega) z hc
 rw[h1];obtain⟨T',pt,et⟩:=z2Q (f:=λt:V×Value×NQ=>t.2) pz T t1;have eT1:T'.map (λt=>t.2.1)=Z'.map Prod.fst:=by rw[<- et,_aI];rfl
 have eT2:T'.map (λt=>t.2.2)=Z'.map Prod.snd:=by rw[<- et,_aI];rfl
 obtain⟨b1,b2⟩:=z1P (T:=T') λt ht=>t2 t (pt.mem_iff.mp ht);rw[eT1]at b1;rw[eT2,<- z2R yx (show (Z'.map Prod.snd).Perm ps from by have:=pz.map Prod.snd;rwa [h2]at this) pw]at b2;obtain⟨c',e⟩:=sortedAll_at s.heap its (Z'.map Prod.fst).toArray;refine⟨.ref (s.heap.objs.size+1),_,I.laid (t':=s.toks) (λb o z=>sortedAll_old z) (Nat.le_succ _) (show yN X.prog X.w _ (sortedAll s.heap its (Z'.map Prod.fst).toArray) _ (.lst (T'.map Prod.fst)) from⟨?_,_,c',b1,e⟩),rfl,q _ b2 _ (I.hok.fresh (Nat.le_succ _))⟩;have l1:T'.length=(its.zip ps).length:=by rw[pt.length_eq,<- _o (f:=λt:V×Value×NQ=>t.2) (as:=T),t1]
 rw[_o,l1,lz];omega
noncomputable def z3u:Mir:=λds s=>match ds with
 | [d]=>match (listOf s d).bind qu with | some L=>.ok (.lst ((zV yk L).map dQ)) s | none=>.no
 | _=>.no
theorem zbU(hu:X.A.units+64<cLine):∃r,xG X (.builtin "sorted") r/\jH X E r z3u:=⟨_,(z6p hu).freeze,λH Y s ds vs Q r hd h=>by
 unfold z3u at h;split at h
 ·rename_i d;split at h
  ·rename_i L e;obtain⟨xs,ex,eL⟩:=_a2.mp e;obtain⟨v,rfl,dn⟩:=z0F hd;obtain⟨a,ws,rfl,q1,q2⟩:=zQ r ex dn;exact⟨a,ws,L,rfl,.inl q1,qG eL q2,λzs pz=>qM r h (zbf pz)⟩
  ·exact h.elim
 ·exact h.elim⟩
end
noncomputable def kf:NQ->List NQ->NQ
 | b,[]=>b | b,x::r=>kf (if yk x b then x else b) r
theorem z5w{bt:Nat->Nat->Bool}{L:List NQ}(hb:∀i j,bt i j=yk (L.getD i ([],[])) (L.getD j ([],[]))):∀k,k<L.length->∀n M,L=n::M->L.getD (argBest bt k) ([],[])=kf n (M.take k)
 | 0,_,n,M,e=>by subst e;simp[argBest,kf] | k+1,hk,n,M,e=>by
  have ih:=z5w hb k (by omega) n M e;have hM:k<M.length:=by subst e;simpa using hk
  have gk:L.getD (k+1) ([],[])=M[k]:=by subst e;simp[List.getD,hM]
  have app:∀(b:NQ)(A:List NQ)(x:NQ),kf b (A++[x])=if yk x (kf b A) then x else kf b A:=by
   intro b A;induction A generalizing b with
   | nil=>intro x;rfl | cons y A ih=>intro x;exact ih _ x
  rw[_df,_n hM,Option.toList_some,app,<- ih];simp only[argBest,hb (k+1) (argBest bt k),gk];split;·exact gk
  ·rfl
section
variable {prog:Program}{w:World}{A:Around}{R:Result->Shared->Prop}{I S:Addr}{fp wr:List Addr}{n:Nat}{P:Nat->Value->Prop}{St:Nat->Heap->Prop}{Kh:Heap->Prop}{bt:Nat->Nat->Bool}{dv:Value}
theorem z6w (W:Walks prog w A.in1 I fp wr n P St) (cmp:∀i j vi vj (s:Shared) (Q:Value->Shared->Prop) (E:Value->Shared->Prop),Kh s.heap->P i vi->P j vj->Q (.bool (bt i j)) s->wpAny (model prog w) A.in1 (richCompare .Lt vi vj) Q E s) (keep:∀h h':Heap,Kh h->(∀b o,b∉wr->b≠S->h.get? b=some o->h'.get? b=some o)->Kh h') (out:S∉fp) (k:Nat): ∀(j:Nat) (s:Shared) (v:Value) (c:Nat),n=j+1+k->St (j+1) s.heap->Kh s.heap->P (argBest bt j) v->s.heap.get? S=some (seqObj "list" #[v,v] c)-> (∀u h' tk,P (argBest bt (n-1)) u->(∀b o,b∉wr->b≠S->s.heap.get? b=some o->h'.get? b=some o)->R (.ok (.ret u)) {s with heap:=h',toks:=tk})-> codeAny (model prog w) A (.builtin "min.loop" ⟨[.ref I,.none,.ref S],[("default",dv)]⟩) R s:=by
 have ow:S∉wr:=λz=>out (W.sub _ z);have nm:(toString "min"++toString ".loop":String)="min.loop":=by decide
 induction k with
 | zero=>
  intro j s v c en st kh pv gS fin;refine codeAny_builtin _ce ?_;rw[_cv _aB _];show wpAny _ A.in1 (seqItems? (.ref S) >>= _) _ _ s;refine _a (_aF gS rfl ?_);show wpAny _ A.in1 (tryCatch (pyNext (.ref I)) _ >>= _) _ _ s;refine _a (_cf (W.done s _ _ (by rw[en];exact st) λh1 tk k1=>?_));show wpAny _ A.in1 (updateSeq S (λ_=>#[]) >>= _) _ _ _;refine _a (wpAny_updateSeq (k1 S _ ow gS) rfl (_a (_b0 (_c ?_))));exact fin v _ tk (by rw[show n-1=j by omega];exact pv) λb o hb hS e=>(_an _ _ (_a1 hS)).trans (k1 b o hb e) | succ k ih=>
  intro j s v c en st kh pv gS fin;refine codeAny_builtin _ce ?_;rw[_cv _aB _];show wpAny _ A.in1 (seqItems? (.ref S) >>= _) _ _ s;refine _a (_aF gS rfl ?_);show wpAny _ A.in1 (tryCatch (pyNext (.ref I)) _ >>= _) _ _ s;refine _a (_cf (W.item (j+1) s _ _ (by omega) st λu h1 tk pu st1 k1=>?_));have gS1:=k1 S _ ow gS;show wpAny _ A.in1 (tryCatch (holding [u,u] (richCompare .Lt u v >>= _)) _ >>= _) _ _ _;refine _a (_cf (_ay (_a (cmp (j+1) (argBest bt j) u v _ _ _ (keep _ _ kh λb o hb _ e=>k1 b o hb e) pu pv ?_))));refine _a (_ay (_ak (_a (_b0 (_c ?_)))));by_cases q:bt (j+1) (argBest bt j)=true
  ·rw[q];simp only[_N];refine _a (wpAny_updateSeq gS1 rfl (_a (_b0 ?_)));rw[nm];refine _c ⟨_dk _aB _,ih (j+1) _ u _ (by omega) (W.frame _ _ _ st1 λb hb o e=>(_an _ _ (λz:S=b=>out (z ▸ hb))).trans e) ?_ (by rw[show argBest bt (j+1)=j+1 by simp[argBest,q]];exact pu) (_bh _ gS1 rfl) λu' h2 tk2 p2 k2=>?_⟩;·exact keep _ _ kh λb o hb hS e=>(_an _ _ (_a1 hS)).trans (k1 b o hb e)
   ·exact fin u' h2 tk2 p2 λb o hb hS e=>k2 b o hb hS ((_an _ _ (_a1 hS)).trans (k1 b o hb e))
  ·rw[show bt (j+1) (argBest bt j)=false by simpa using q];simp only[_B,_ab];refine _a (_b0 ?_);rw[nm];refine _c ⟨_dk _aB _,ih (j+1) _ v c (by omega) st1 (keep _ _ kh λb o hb _ e=>k1 b o hb e) (by rw[show argBest bt (j+1)=argBest bt j by simp[argBest,q]];exact pv) gS1 λu' h2 tk2 p2 k2=>?_⟩;exact fin u' h2 tk2 p2 λb o hb hS e=>k2 b o hb hS (k1 b o hb e)
end
section
variable {prog:Program}{w:World}{A:Around}{E:Value->Shared->Prop}{s:Shared}
theorem z5d {x d:Value} {Q:Value->Shared->Prop} (h:wpAny (model prog w) A.in1 (pyIter x) (λit s2=>∃I fp wr n P St bt,∃Kh:Heap->Prop,it=.ref I/\Walks prog w A.in1 I fp wr n P St/\St 0 s2.heap/\(∀b∈fp,b<s2.heap.objs.size)/\Kh s2.heap/\ (∀i j vi vj (s:Shared) (Q:Value->Shared->Prop) (E:Value->Shared->Prop),Kh s.heap->P i vi->P j vj->Q (.bool (bt i j)) s->wpAny (model prog w) A.in1 (richCompare .Lt vi vj) Q E s)/\ (∀h h':Heap,Kh h->(∀b o,b∉wr->b<s2.heap.objs.size->h.get? b=some o->h'.get? b=some o)->Kh h')/\ (n=0->∀h' tk,(∀b o,b∉wr->s2.heap.get? b=some o->h'.get? b=some o)->Q d {s2 with heap:=h',toks:=tk})/\ ∀v h' tk,0<n->P (argBest bt (n-1)) v->(∀b o,b∉wr->s2.heap.get? b=some o->h'.get? b=some o)->Q v {s2 with heap:=h',toks:=tk}) E s): wpAny (model prog w) A (call (.builtin "min") [x] [("default",d)]) Q E s:=by
 have nm:(toString "min"++toString ".loop":String)="min.loop":=by decide
 refine z6m PySem.F.kind_min PySem.F.plain_min PySem.F.entry_min (z8F _ _) ?_;show wpAny _ A.in1 (Builtin.Builtins.bindParams "min" ["key","default"] 0 ⟨[],[("default",d)]⟩ >>= _) _ _ s;refine _a (_cs (z8q d) (_a (_c ?_)));refine _a (_z h (λit s2 z=>?_) λ_ _ e=>e);obtain⟨I,fp,wr,n,P,St,bt,Kh,rfl,W,st,bd,kh,cmp,keep,f0,fin⟩:=z;refine _a (_L ?_);have out:s2.heap.objs.size∉fp:=λz=>_ax _ (bd _ z);have ow:s2.heap.objs.size∉wr:=λz=>out (W.sub _ z);have keep':∀h h':Heap,Kh h->(∀b o,b∉wr->b≠s2.heap.objs.size->h.get? b=some o->h'.get? b=some o)->Kh h':=λh h' z k=>keep h h' z λb o hb lt e=>k b o hb (_G lt) e;rw[nm];refine _c ⟨_dk _aB _,codeAny_builtin _ce ?_⟩;have gS:(s2.heap.push (seqObj "list" #[] 0)).get? s2.heap.objs.size=some (seqObj "list" #[] 0):=_t _ rfl;rw[_cv _aB _];show wpAny _ A.in1 (seqItems? (.ref s2.heap.objs.size) >>= _) _ _ {s2 with heap:=s2.heap.push (seqObj "list" #[] 0)};refine _a (_aF gS rfl ?_);show wpAny _ A.in1 (tryCatch (pyNext (.ref I)) _ >>= _) _ _ _;have st':St 0 (s2.heap.push (seqObj "list" #[] 0)):=W.frame _ _ _ st λb _ o e=>_e _ e;rcases _c6 n with rfl | hn
 ·refine _a (_cf (W.done _ _ _ st' λh1 tk k1=>?_));refine _a (_at (_c ?_));exact f0 rfl _ _ λb o hb e=>k1 b o hb (_e _ e)
 refine _a (_cf (W.item 0 _ _ _ hn st' λu h1 tk pu st1 k1=>?_));have gS1:=k1 _ _ ow gS;show wpAny _ A.in1 (updateSeq s2.heap.objs.size (λ_=>#[u,u]) >>= _) _ _ _;refine _a (wpAny_updateSeq gS1 rfl ?_);rw[nm];have old:∀b o,b∉wr->b≠s2.heap.objs.size->s2.heap.get? b=some o->(h1.update s2.heap.objs.size (Obj.mapSeq λ_=>#[u,u])).get? b=some o:=λb o hb hS e=> (_an _ _ (_a1 hS)).trans (k1 b o hb (_e _ e));refine _c ⟨_dk _aB _,z6w W cmp keep' out (n-1) 0 _ u _ (by omega) (W.frame _ _ _ st1 λb hb o e=>(_an _ _ (λz:s2.heap.objs.size=b=>out (z ▸ hb))).trans e) (keep' _ _ kh old) pu (_bh _ gS1 rfl) λu' h2 tk2 p2 k2=>?_⟩;exact fin u' h2 tk2 hn p2 λb o hb e=>k2 b o hb (_G (_r e)) (old b o hb (_G (_r e)) e)
end
section
variable {X:Cx}{E:XK}{e f:Expr}{x:Str}{p pos kp:Pos}{te tf:TE}
def zgE(te tf:TE):TE:=λO H Q=>te O H λv H1=>tf O H1 λd H2=>∃a xs L,v=.ref a/\SqL X.K H2 a xs/\Paired (λv p=>AtQ H2 v p) xs L/\(L=[]->Q d H2)/\∀n M y,L=n::M->AtQ H2 y (kf n M)->Q y H2
theorem zcr (hc:X.calm=true) (hu:X.A.units+64<cLine) (he:PE X e te) (hf:PE X f tf) (hg:Gl X x) (hm:X.mg x=none) (hv:bootBuiltins x=some (.builtin "min")) (hn:x≠"__name__":=by decide) (hdb:(x==("__debug__":Str))=false:=by decide) (h1:backTo pos (starEach [e] X.env)=(false,eval e X.env)::backTo pos (starEach [] X.env):=by rfl) (h2:(backTo pos (starEach [e] X.env)).any (·.1)=false:=by rfl) (h3:(backToKw pos (keywordEach [⟨some "default",f,kp⟩] X.env)).all (·.1.isSome)=true:=by rfl) (h4:(backToKw pos (keywordEach [⟨some "default",f,kp⟩] X.env)).any (·.1.isNone)=false:=by rfl) (h5:∀v:Value,((backToKw pos (keywordEach [⟨some "default",f,kp⟩] X.env)).filterMap (·.1)).zip [v]=[(("default":Str),v)]:=by intro _;rfl): PE X (.Call (.Name x p) [e] [⟨some "default",f,kp⟩] pos) (zgE (X:=X) te tf):=by
 intro pins s O H Q I h;refine _bu (z18 I hg hm hv ?_ hn hdb);refine PyProof.Rows.callWith_kw ?_ h1 h2 h3 h4;rw[h1];refine _bc (thn (he pins s O H _ I h) λu s1 ⟨v,H1,I1,r1,q1⟩=>_b2 ?_);refine kws_cons (thn (hf pins s1 O H1 _ I1 q1) λw s2 ⟨d,H2,I2,r2,a,xs,L,ev,sq,hp,q0,q1⟩=>kws_nil ?_);subst ev;cases (show u=Value.ref a from r1);rw[h5];obtain⟨its,rv,co⟩:=I2.sq (b:=true) sq;have hl:its.length=L.length:=by rw[<- jV hp,rv.length]
 have at_:∀i v,its.toArray[i]? = some v->∃y,xs[i]? = some y/\yq y v/\AtQ H2 y (L.getD i ([],[])):=λi v e=>by
  have e':its[i]? = some v:=by simpa using e
  have hi:i<xs.length:=by have:=(_b.mp e').1;have:=rv.length;omega
  obtain⟨w,hw,rw_⟩:=rv.get (i:=i) (x:=xs[i]) (_n hi);rw[e']at hw;cases hw;obtain⟨ns,e1,e2⟩:=z1R hp i _ (_n hi);exact⟨xs[i],_n hi,rw_,by rw[List.getD,e1];exact e2⟩
 refine z5d (Zz.z1m (I2.ok.hd hc) co λs3 e3 St W st bd old=>?_);subst e3;refine⟨_,_,_,_,_,_,λi j=>yk (L.getD i ([],[])) (L.getD j ([],[])),λh=>∀c o,s2.heap.get? c=some o->h.get? c=some o,rfl,W,st,bd,λc o e=>_e _ e,λi j vi vj s4 Q3 E3 kh pi pj q3=>?_,λh h' kh k c o e=>?_,λz h' tk hk=>?_,λv h' tk hn e hk=>?_⟩
 ·obtain⟨yi,_,ri,ai⟩:=at_ i vi pi;obtain⟨yj,_,rj,aj⟩:=at_ j vj pj;have u1:X.A.in1.units=X.A.units+1:=rfl;have u2:X.A.in1.in1.units=X.A.units+2:=rfl;obtain⟨b,b',e1,e2,z⟩:=AtQ.qq (A:=X.A.in1.in1) (s3:=s4) I2 kh (by omega) ai ri aj rj;rw[e1,e2];exact zgC (by omega) z q3
 ·refine k c o (λz=>?_) (by rw[_aw];exact _aN (_r e)) (kh c o e);have:c=s2.heap.objs.size:=by simpa using z
  exact absurd (this ▸ _r e) (_ax _)
 ·have:L=[]:=_cw (by rw[_k]at z;omega);exact⟨d,H2,I2.kept (t':=tk) (old h' hk),r2,q0 this⟩
 ·obtain⟨y,_,ry,ay⟩:=at_ _ v e;cases L with
  | nil=>rw[_k,hl]at hn;exact absurd hn (_ax 0) | cons n M=>
   have em:=z5w (bt:=λi j=>yk ((n::M).getD i ([],[])) ((n::M).getD j ([],[]))) (L:=n::M) (λi j=>rfl) (its.toArray.size-1) (by simp[hl]) n M rfl;have tk':M.take (its.toArray.size-1)=M:=by simp[hl]
   rw[tk']at em;rw[em]at ay;exact⟨y,H2,I2.kept (t':=tk) (old h' hk),ry,q1 n M y rfl ay⟩
noncomputable def zcQ(fe ff:FE):FE:=fun ρ s=>(fe ρ s).bind λv s1=>(ff ρ s1).bind λd s2=>match v with
 | .lst xs=>match qu xs with
  | some []=>.ok d s2 | some (n::M)=>.ok (dQ (kf n M)) s2 | none=>.no
 | _=>.no
theorem zdL{fe ff:FE}(hc:X.calm=true)(hu:X.A.units+64<cLine)(he:RE X E e fe)(hf:RE X E f ff)(hg:Gl X x)(hm:X.mg x=none)(hv:bootBuiltins x=some (.builtin "min"))(hn:x≠"__name__":=by decide)(hdb:(x==("__debug__":Str))=false:=by decide) (h1:backTo pos (starEach [e] X.env)=(false,eval e X.env)::backTo pos (starEach [] X.env):=by rfl)(h2:(backTo pos (starEach [e] X.env)).any (·.1)=false:=by rfl) (h3:(backToKw pos (keywordEach [⟨some "default",f,kp⟩] X.env)).all (·.1.isSome)=true:=by rfl)(h4:(backToKw pos (keywordEach [⟨some "default",f,kp⟩] X.env)).any (·.1.isNone)=false:=by rfl) (h5:∀v:Value,((backToKw pos (keywordEach [⟨some "default",f,kp⟩] X.env)).filterMap (·.1)).zip [v]=[(("default":Str),v)]:=by intro _;rfl): RE X E (.Call (.Name x p) [e] [⟨some "default",f,kp⟩] pos) (zcQ fe ff):= yh (zcr hc hu he hf hg hm hv hn hdb h1 h2 h3 h4 h5) λO H Q ⟨Y,ρ,s,r,en,h⟩=>by
  refine yd (k:=fun ρ v s1=>(ff ρ s1).bind λd s2=>match v with
   | .lst xs=>match qu xs with
    | some []=>R.ok d s2 | some (n::M)=>.ok (dQ (kf n M)) s2 | none=>.no
   | _=>.no) r en h _ λv H1 Y1 s1 vd r1 en1 dn stp h1=>?_;refine yd (k:=fun ρ d s2=>match vd with
   | .lst xs=>match qu xs with
    | some []=>R.ok d s2 | some (n::M)=>.ok (dQ (kf n M)) s2 | none=>.no
   | _=>.no) r1 en1 h1 _ λw H2 Y2 s2 d r2 en2 dn2 stp2 h2=>?_;have dv:=dn.mono stp2;split at h2
  ·rename_i xs;simp only[Den]at dv;obtain⟨a,o,vs,rfl,q1,dv⟩:=dv;split at h2
   ·rename_i ep;exact⟨a,vs,[],rfl,.inl (.inr ⟨o,q1⟩),qG ep dv,λ_=>h2.here r2 dn2,λn M y z=>by cases z⟩
   ·rename_i n M ep;exact⟨a,vs,n::M,rfl,.inl (.inr ⟨o,q1⟩),qG ep dv,(λz=>by cases z),λn' M' y z ay=>by cases z;exact h2.here r2 ay.den⟩
   ·exact h2.elim
  ·exact h2.elim
end
end Dd
namespace Pg
open L2 Dd
@[simp] noncomputable def xD:FS:=(vP 2 (eOp z6i (ze xL (za (zd 0) zi)) (eC (.int 2))))
@[simp] noncomputable def wR:FS:=(vP 3 zc3)
@[simp] def zU:FS:=(z1z (z6v (zd 3) (ze zE (za (zd 4) (za (eSl (zd 0) yo (vw (zd 2))) zi))) 4))
@[simp] def xE:FS:=(z4S (xg (ze zJ (za (zd 2) (za (z5c (zd 1)) (za (zd 1) zi))))) (xK 4) zU)
@[simp] noncomputable def xC:FS:=(vP 5 (zdi zi))
@[simp] def zT:FS:=(z8g 5 (zX (xg (z1F (zd 3) (z5c (ze zE (za (zd 6) (za (eSl (zd 0) (vw (zd 2)) yo) zi)))))) [some 6,none] (xK 1) xJ (eOp wT (zd 1) (zd 0))))
@[simp] def xB:FS:=(z4S (xg (ze zJ (za (eOp zaM (ze xL (za (zd 0) zi)) (zd 2)) (za (z5c (zd 1)) (za (zd 1) zi))))) (xK 6) zT)
@[simp] def xF:FS:=(vv (ze z5O (za (zX (xg (zd 5)) [none] (xK 0) (tOf (eOp dGt (ze uf (za (zd 0) zi)) (eC (.int 0)))) (zd 0)) zi)))
def vt:FS:=(zZ xD (zZ wR (zZ xE (zZ xC (zZ xB xF)))))
def zt:Mir:=z4g (Mof ["lot","most","middle","by_sum","first","found","second"] 2 vt)
@[simp] def qV:FS:=(z1z (ze wv (za (zd 0) zi)))
@[simp] noncomputable def z1B:FS:=fNo
@[simp] noncomputable def qS:FS:=(fIf (tOf (eOp dGt (ze vp (za (zd 0) zi)) (eC (.int 1000)))) z1B wN)
def jm:FS:=(zZ qV qS)
def xq:Mir:=Mof ["lot"] 1 jm
@[simp] def xP:FS:=(z1z (ze xq (za (zd 0) zi)))
@[simp] noncomputable def xU:FS:=(z1z (ze xu (za (zd 1) (za (eC (.int 1)) (za (eC (.int 8)) zi)))))
def wb:FS:=(zZ xP xU)
def zh:Mir:=Mof ["lot","number"] 2 wb
@[simp] def kA:FS:=(z1z (ze zh (za (zd 0) (za (zd 1) zi))))
@[simp] def kD:FS:=(vv (zc0 (ze zt (za (zd 0) (za (zd 1) zi)))))
def z0D:FS:=(zZ kA kD)
def wY:Mir:=Mof ["lot","number"] 2 z0D
@[simp] def qc:FS:=(z1z (ze zh (za (zd 0) (za (zd 1) zi))))
@[simp] noncomputable def z3I:FS:=(vv (eC (.bl false)))
@[simp] noncomputable def qe:FS:=(fIf (fOr (jl (tOf (eIs "tuple" (zd 2)))) (tOf (eOp dNe (ze xL (za (zd 2) zi)) (eC (.int 2))))) z3I wN)
@[simp] noncomputable def kO:FS:=(zh9 (zd 2) (z13 3 4))
@[simp] noncomputable def z3w:FS:=(vv (eC (.bl false)))
@[simp] def uX:FS:=(fIf (fOr (jl (tOf (ze yf (za (zd 0) (za (zd 1) (za (zd 3) zi)))))) (jl (tOf (ze yf (za (zd 0) (za (zd 1) (za (zd 4) zi))))))) z3w wN)
@[simp] def uT:FS:=(vv (z2I (eOp z9q (zd 3) (zd 4)) (eOp dEq (ze zE (za (zd 3) (za (zd 0) zi))) (ze zE (za (zd 4) (za (zd 0) zi))))))
def qZ:FS:=(zZ qc (zZ qe (zZ kO (zZ uX uT))))
def xz:Mir:=Mof ["lot","number","thing","one","other"] 3 qZ
@[simp] def qa:FS:=(z1z (ze zh (za (zd 0) (za (zd 1) zi))))
@[simp] def qt:FS:=(vP 2 (zX (xg (ze zt (za (zd 0) (za (zd 1) zi)))) [none] (xK 0) (tOf (eOp z9q (ze wA (za (zd 0) zi)) (zd 0))) (vA (za (ze uz (za (ze wA (za (zd 0) zi)) zi)) (za (ze uz (za (zd 0) zi)) zi)))))
@[simp] noncomputable def xo:FS:=(vv (zcQ (zd 2) (eC .non)))
def qL:FS:=(zZ qa (zZ qt xo))
def zR:Mir:=Mof ["lot","number","clashes"] 2 qL
end Pg
namespace K52
open L2 Dd Pg
@[simp] noncomputable def vG:FS:=(vP 2 (z04 (za (vA zi) zi)))
@[simp] noncomputable def xH:FS:=(vP 4 (zdi zi))
@[simp] def wB:FS:=(z1z (zfp (zd 4) (zX (z2l (za (eOp wT (zd 1) (eC (.int 1))) zi)) [some 5,none] (xK 1) xJ (eOp wT (zd 0) (vA (za (zd 1) zi))))))
@[simp] def xI:FS:=(z4S (xg (zd 2)) (xK 5) wB)
@[simp] noncomputable def vN:FS:=(vP 2 (zd 4))
@[simp] def qT:FS:=(z4S (z2l (za (zd 0) zi)) (xK 3) (zZ xH (zZ xI vN)))
@[simp] noncomputable def vM:FS:=(vv (zd 2))
def jp:FS:=(zZ vG (zZ qT vM))
def xS:Mir:=z4g (Mof ["_law_size","_law_number","_law_found","_law_place","_law_longer","_law_begun"] 2 jp)
@[simp] noncomputable def uI:FS:=(vP 2 zc3)
@[simp] def yP:FS:=(vP 4 (ze Pg.xT (za (zd 3) (za (zd 0) zi))))
@[simp] noncomputable def yS:FS:=(z6T 2 4 3)
@[simp] def uN:FS:=(z4S (xg (z7J (ze xS (za (ze xL (za (zd 0) zi)) (za (zd 1) zi))))) (xK 3) (zZ yP yS))
@[simp] def uK:FS:=(vv (ze z3u (za (zX (z1T (zd 2)) [some 2,none] (xK 1) (tOf (eOp dGt (ze xL (za (kT (zd 0) (zd 1)) zi)) (eC (.int 1)))) (ze wn (za (eSl (kT (zd 0) (zd 1)) yo (vw (eC (.int 2)))) zi))) zi)))
def qr:FS:=(zZ uI (zZ uN uK))
def yU:Mir:=z4g (Mof ["_law_lot","_law_number","_law_known","_law_one","_law_key"] 2 qr)
@[simp] noncomputable def kj:FS:=(vv (eC (.bl false)))
@[simp] noncomputable def wu:FS:=(fIf (fOr (jl (tOf (eIs "tuple" (zd 2)))) (tOf (eOp dNe (ze xL (za (zd 2) zi)) (eC (.int 2))))) kj wN)
@[simp] noncomputable def jM:FS:=(vv (eC (.bl false)))
@[simp] def zO:FS:=(fIf (fOr (jl (tOf (eIs "tuple" (zd 3)))) (fOr (tOf (eOp dNe (ze xL (za (zd 3) zi)) (ze xL (za (zd 0) zi)))) (jl (tOf (ze z71 (za (zX (xg (zd 3)) [none] (xK 0) xJ (ze Pg.zI (za (zd 0) zi))) zi)))))) jM wN)
@[simp] noncomputable def kg:FS:=(vv (eC (.bl false)))
@[simp] noncomputable def zP:FS:=(fIf (fOr (tOf (eOp dLt (ze jQ (za (zd 3) zi)) (eC (.int 0)))) (tOf (eOp dGt (ze vp (za (zd 3) zi)) (zd 1)))) kg wN)
@[simp] def wy:FS:=(z4S (xg (zd 2)) (xK 3) (zZ zO zP))
@[simp] def ww:FS:=(vv (z2I (eOp z9q (eOp dIx (zd 2) (eC (.int 0))) (eOp dIx (zd 2) (eC (.int 1)))) (eOp dEq (ze Pg.xT (za (eOp dIx (zd 2) (eC (.int 0))) (za (zd 0) zi))) (ze Pg.xT (za (eOp dIx (zd 2) (eC (.int 1))) (za (zd 0) zi))))))
def wP:FS:=(zZ wu (zZ wy ww))
def zS:Mir:=Mof ["_law_lot","_law_number","_law_thing","_law_one"] 3 wP
@[simp] noncomputable def ux:FS:=(zfv 3 4 (za (ze Pg.zk (za (zd 0) (za (eC (.int 2)) zi))) (za (ze Pg.zk (za (zd 0) (za (ze xL (za (eOp dIx (zd 1) (eC (.int 0))) zi)) zi))) zi)))
@[simp] noncomputable def uG:FS:=(vP 5 (eOp dIx (zd 1) (zd 3)))
@[simp] noncomputable def uj:FS:=(vP 6 (eOp dIx (z04 (za (eOp wT (eOp dIx (zd 5) (zd 4)) (eC (.int 1))) (za (eOp zaM (eOp dIx (zd 5) (zd 4)) (eC (.int 1))) (za (eOp wT (zd 2) (eC (.int 1))) (za (z5c (eC (.int 1))) (za (eC (.bl true)) (za (eC .non) (za (eC (.str "1")) (za (vA (za (eC (.int 1)) zi)) (za (eC (.int 0)) zi)))))))))) (ze Pg.zk (za (zd 0) (za (eC (.int 9)) zi)))))
@[simp] noncomputable def ug:FS:=(vP 7 (eOp wT (eOp wT (eSl (zd 5) yo (vw (zd 4))) (vA (za (zd 6) zi))) (eSl (zd 5) (vw (eOp wT (zd 4) (eC (.int 1)))) yo)))
@[simp] noncomputable def uA:FS:=(vP 8 (eOp dIx (z04 (za (zd 7) (za (zd 7) (za (zd 7) (za (eSl (zd 5) (vw (eC (.int 1))) yo) (za (eOp wT (zd 5) (vA (za (eC (.int 0)) zi))) (za (ze z6R (za (zd 5) zi)) (za (eC .non) (za (zd 5) zi))))))))) (ze Pg.zk (za (zd 0) (za (eC (.int 8)) zi)))))
@[simp] noncomputable def uk:FS:=(vP 9 (eOp dIx (z04 (za (vA (za (zd 8) (za (eOp dIx (zd 1) (eC (.int 1))) zi))) (za (vA (za (eOp dIx (zd 1) (eC (.int 0))) (za (zd 8) zi))) zi))) (zd 3)))
@[simp] noncomputable def ue:FS:=(vP 10 (z04 (za (zcL (zd 1)) (za (ze z6R (za (zd 1) zi)) (za (eOp wT (zd 1) (vA (za (zd 5) zi))) (za (vA (za (zd 5) zi)) (za (vA (za (zd 5) (za (zd 5) zi))) (za (eC .non) (za (eC (.int 5)) (za (eC (.str "")) (za (zd 1) zi)))))))))))
@[simp] noncomputable def uu:FS:=(vv (eOp dIx (eOp wT (z04 (za (zd 9) (za (zd 9) (za (zd 9) zi)))) (zd 10)) (ze Pg.zk (za (zd 0) (za (eC (.int 12)) zi)))))
noncomputable def qi:FS:=(zZ ux (zZ uG (zZ uj (zZ ug (zZ uA (zZ uk (zZ ue uu)))))))
noncomputable def yH:Mir:=Mof ["_law_pot_here","_law_pair","_law_number","_law_which","_law_at","_law_one","_law_odd","_law_other","_law_some","_law_new","_law_more"] 3 qi
@[simp] def z0u:FS:=(vP 2 (ze Pg.wX (za (ze Pg.yT (za (zd 0) (za (zd 1) zi))) zi)))
@[simp] noncomputable def z1k:FS:=(vP 3 (eOp wT (eC (.int 2)) (ze Pg.zk (za (zd 2) (za (eC (.int 3)) zi)))))
@[simp] def z10:FS:=(vP 4 (ze Pg.yR (za (zd 2) (za (zd 3) zi))))
@[simp] noncomputable def z0E:FS:=(vP 5 (eOp wT (eC (.int 1)) (ze Pg.zk (za (zd 2) (za (eC (.int 8)) zi)))))
@[simp] def z0O:FS:=(vP 6 (ze yU (za (zd 4) (za (zd 5) zi))))
@[simp] noncomputable def zc6:FS:=(vv (eC (.bl false)))
@[simp] def z0R:FS:=(fIf (jl (tOf (ze Pg.yV (za (ze Pg.zR (za (zd 4) (za (zd 5) zi))) (za (eOp dIx (eOp wT (zd 6) (z04 (za (eC .non) zi))) (eC (.int 0))) zi))))) zc6 wN)
@[simp] noncomputable def z9M:FS:=(vv (eC (.bl false)))
@[simp] def jo:FS:=(fIf (jl (tOf (ze Pg.yV (za (ze Pg.wY (za (zd 4) (za (zd 5) zi))) (za (eOp dEq (zd 6) (z04 zi)) zi))))) z9M wN)
@[simp] def z0U:FS:=(z4S (z2l (za (eC (.int 2)) zi)) (xK 7) (zZ z0R jo))
@[simp] def jB:FS:=(vP 8 (z04 (za (ze wn (za (zX (z2l (za (eC (.int 2)) zi)) [some 2,some 5,some 3,none] (xK 3) xJ (ze wn (za (zX (z2l (za (zd 2) zi)) [some 0,some 1,none] (xK 2) xJ (ze Pg.zk (za (zd 0) (za (eOp wT (zd 1) (eC (.int 1))) zi)))) zi))) zi)) zi)))
@[simp] noncomputable def jK:FS:=(vP 8 (eOp wT (eOp wT (eOp wT (zd 8) (eSl (zd 6) yo (vw (eC (.int 1))))) (eSl (zd 6) (vw (z5c (eC (.int 1)))) yo)) (z04 (za (vA (za (eOp z3D (vA (za (eC (.int 0)) zi)) (zd 3)) (za (eOp z3D (vA (za (zd 5) zi)) (zd 3)) zi))) zi))))
@[simp] noncomputable def z9R:FS:=(vv (eC (.bl false)))
@[simp] def z0r:FS:=(fIf (jl (tOf (ze Pg.yV (za (ze Pg.xz (za (zd 4) (za (zd 5) (za (zd 10) zi)))) (za (ze zS (za (zd 4) (za (zd 5) (za (zd 10) zi)))) zi))))) z9R wN)
@[simp] def z0p:FS:=(z4S (xg (z04 (za (zd 9) (za (zcL (zd 9)) (za (ze yH (za (zd 2) (za (zd 9) (za (zd 5) zi)))) (za (ze yH (za (zd 2) (za (zd 9) (za (zd 5) zi)))) zi)))))) (xK 10) z0r)
@[simp] def jD:FS:=(z4S (xg (zd 8)) (xK 9) z0p)
@[simp] def z4W:FS:=(z4S (z2l (za (ze z48 (za (eC (.int 1)) (za (ze zay (za (ze xL (za (zd 0) zi)) (za (eC (.int 4)) zi))) zi))) zi)) (xK 1) (zZ z0u (zZ z1k (zZ z10 (zZ z0E (zZ z0O (zZ z0U (zZ jB (zZ jK jD)))))))))
@[simp] def z2p:FS:=(vv (z2I (eOp dIs (ze Pg.zR (za (vA (za (eC (.int 1)) (za (eC (.int 9)) zi))) (za (eC (.int 8)) zi))) (eC .non)) (eOp dEq (ze Pg.zR (za (vA (za (eC (.int 1)) (za (eC (.int 8)) zi))) (za (eC (.int 8)) zi))) (vA (za (vA (za (eC (.int 0)) (za (eC (.int 1)) zi))) (za (vA (za (eC (.int 8)) (za (eC (.int 0)) zi))) zi))))))
def zaF:FS:=(zZ z4W z2p)
def zcC:Mir:=Mof ["_law_script","_law_at","_law_pot_here","_law_size","_law_lot","_law_number","_law_some","_law_turn","_law_pairs","_law_pair","_law_thing"] 1 zaF
end K52
set_option maxHeartbeats 6000000
namespace K52
open L2 Dd Pg
structure Txt(mg:Str->Option Value):Prop where
 f0:∃t,mg "LEAST_SIZE"=some (.int 2 t)
 f1:∃t,mg "MOST_NUMBER"=some (.int 1000 t)
 f2:∃t,mg "MOST_OFTEN"=some (.int 8 t)
 f3:∃t,mg "MOST_SIZE"=some (.int 4 t)
 f4:mg "abs"=none
 f5:mg "all"=none
 f6:mg "bool"=none
 f7:mg "int"=none
 f8:mg "isinstance"=none
 f9:mg "len"=none
 f10:mg "list"=none
 f11:mg "max"=none
 f12:mg "min"=none
 f13:mg "range"=none
 f14:mg "sorted"=none
 f15:mg "str"=none
 f16:mg "sum"=none
 f17:mg "tuple"=none
 f18:mg "zip"=none
theorem zdy:bootBuiltins "abs"=some (.builtin "abs"):=by decide +kernel
theorem z79:bootBuiltins "all"=some (.builtin "all"):=by decide +kernel
theorem z2X:bootBuiltins "bool"=some (.type "bool"):=by decide +kernel
theorem z8o:bootBuiltins "int"=some (.type "int"):=by decide +kernel
theorem wF:bootBuiltins "len"=some (.builtin "len"):=by decide +kernel
theorem z2y:bootBuiltins "list"=some (.type "list"):=by decide +kernel
theorem kB:bootBuiltins "max"=some (.builtin "max"):=by decide +kernel
theorem z44:bootBuiltins "min"=some (.builtin "min"):=by decide +kernel
theorem z3j:bootBuiltins "sorted"=some (.builtin "sorted"):=by decide +kernel
theorem zb0:bootBuiltins "str"=some (.type "str"):=by decide +kernel
theorem zaV:bootBuiltins "sum"=some (.builtin "sum"):=by decide +kernel
theorem xt:bootBuiltins "tuple"=some (.type "tuple"):=by decide +kernel
theorem zhD:(["_law_pot_here","_law_number","_law_size","_law_turn"]:List Str).Nodup:=by decide +kernel
theorem zhb:(["_law_pot_here","_law_number","_law_place"]:List Str).Nodup:=by decide +kernel
theorem zhz:(["_law_one","_law_other"]:List Str).Nodup:=by decide +kernel
theorem zhQ:(["_law_pot_here","_law_far","_law_place"]:List Str).Nodup:=by decide +kernel
theorem zhc:(["_law_known","_law_key"]:List Str).Nodup:=by decide +kernel
theorem zhh:(["_law_begun","_law_one"]:List Str).Nodup:=by decide +kernel
theorem zhw:(["_law_mine","_law_own"]:List Str).Nodup:=by decide +kernel
theorem zhi:(["part"]:List Str).Nodup:=by decide +kernel
theorem zhB:(["one","other"]:List Str).Nodup:=by decide +kernel
theorem zh0:(["line"]:List Str).Nodup:=by decide +kernel
theorem zbB:(["number"]:List Str).Nodup:=by decide +kernel
theorem zgJ:(["second","first"]:List Str).Nodup:=by decide +kernel
theorem zeV:(["least","most","ahead","number"]:List Str).Nodup:=by decide +kernel
theorem zfC:(["_law_many"]:List Str).Nodup:=by decide +kernel
section
local macro_rules | `(tactic| trivial)=>`(tactic| exact⟨rfl,rfl,rfl,by decide +kernel,rfl,by decide +kernel,by decide +kernel⟩)
theorem z55:zG ["thing"] ["thing"] (zo jh):=by trivial
theorem z5a:zG ["thing"] ["thing"] (zo jc):=by trivial
theorem xr:zG ["size","least","most","found","place"] ["size","least","most"] (zo wq):=by trivial
theorem z4U:zG ["line","numbers"] ["line","numbers"] (zo qW):=by trivial
theorem z8f:zG ["line"] ["line"] (zo z0T):=by trivial
theorem z7N:zG ["line"] ["line"] (zo z0x):=by trivial
theorem z9E:zG ["line"] ["line"] (zo z3f):=by trivial
theorem z0J:zG ["_law_script","_law_k"] ["_law_script","_law_k"] (zo vc):=by trivial
theorem wx:zG ["_law_cell","_law_number","_law_j","_law_more"] ["_law_cell"] (zo jj):=by trivial
theorem kF:zG ["_law_pot_here","_law_far","_law_found"] ["_law_pot_here","_law_far"] (zo qE):=by trivial
theorem z2J:zG ["_law_found"] ["_law_found"] (zo uE):=by trivial
theorem z4L:zG ["_law_one","_law_lot"] ["_law_one","_law_lot"] (zo jf):=by trivial
theorem xw:zG ["_law_size","_law_number","_law_found","_law_place","_law_longer","_law_begun"] ["_law_size","_law_number"] (zo uh):=by trivial
theorem z2F:zG ["thing","many"] ["thing","many"] (zo ud):=by trivial
theorem z1t:zG ["thing","least","most"] ["thing","least","most"] (zo vJ):=by trivial
theorem zL:zG ["lot","most","middle","by_sum","first","found","second"] ["lot","most"] (zo xO):=by trivial
theorem z4z:zG ["_law_found","_law_due"] ["_law_found","_law_due"] (zo vz):=by trivial
theorem yC:zG ["_law_pot_here","_law_size","_law_far","_law_found","_law_at","_law_to","_law_way"] ["_law_pot_here","_law_size"] (zo wz):=by trivial
theorem wj:zG ["_law_lot","_law_number","_law_known","_law_one","_law_key"] ["_law_lot","_law_number"] (zo vh):=by trivial
theorem uP:zG ["_law_lot","_law_number","_law_thing","_law_one"] ["_law_lot","_law_number","_law_thing"] (zo wO):=by trivial
theorem yG:zG ["_law_pot_here","_law_pair","_law_number","_law_which","_law_at","_law_one","_law_odd","_law_other","_law_some","_law_new","_law_more"] ["_law_pot_here","_law_pair","_law_number"] (zo qo):=by trivial
theorem z7s:zG ["thing"] ["thing"] (zo z1h):=by trivial
theorem z3L:zG ["lot","number","thing"] ["lot","number","thing"] (zo qD):=by trivial
theorem z4H:zG ["thing"] ["thing"] (zo qX):=by trivial
theorem z30:zG ["lot"] ["lot"] (zo uo):=by trivial
theorem uw:zG ["lot","number"] ["lot","number"] (zo yM):=by trivial
theorem z4Y:zG ["lot","number"] ["lot","number"] (zo ji):=by trivial
theorem z0z:zG ["lot","number","thing","one","other"] ["lot","number","thing"] (zo qY):=by trivial
theorem qQ:zG ["lot","number","clashes"] ["lot","number"] (zo vO):=by trivial
theorem uM:zG ["_law_script","_law_at","_law_pot_here","_law_size","_law_lot","_law_number","_law_some","_law_turn","_law_pairs","_law_pair","_law_thing"] ["_law_script"] (zo z1I):=by trivial
end
section
variable {P:Program}{w:World}{K:W.Frag}{mg:Str->Option Value}{base:Heap}(T:Txt mg){f:Addr}{fd:FuncData}
include T
local macro_rules | `(tactic| trivial)=>`(tactic| first | exact (λ_ _ _ _ _ _ us hl=>match us,hl with | [_],_=>rfl) | exact (λ_ _ _ _ _ _ us hl=>match us,hl with | [_,_],_=>rfl) | exact (λ_ _ _ _ _ _ us hl=>match us,hl with | [_,_,_],_=>rfl))
theorem z4e(F:Fun K "is_whole" "is_whole" jh f fd)(hm:mg "is_whole"=some (.ref f))  : Has P w K mg base CX0 "is_whole" 1 Pg.yD:= (yp F hm (F.binds (ps:=["thing"]) (by trivial)) z55 rfl λcdv A outer s H E hr hc=> have hu:=hr.units;(zr (yr (ki (z3g (by decide) z8o (by rfl) T.f8 (by rfl) T.f7 (zc 0)) (z06 (ze5 (z3g (by decide) z2X (by rfl) T.f8 (by rfl) T.f6 (zc 0))))))))
theorem z45 (F:Fun K "has_size" "has_size" jc f fd) (hm:mg "has_size"=some (.ref f))  : Has P w K mg base CX0 "has_size" 1 Pg.wW:= (yp F hm (F.binds (ps:=["thing"]) (by trivial)) z5a rfl λcdv A outer s H E hr hc=> have hu:=hr.units;(zr (yr (ki (z3g (by decide) xt (by rfl) T.f8 (by rfl) T.f17 (zc 0)) (z06 (zcn zds zds (zfx (by rfl) T.f0) (zF uZ (by rfl) T.f9 wF (aN (zc 0) zf) (he:=(zA ..))) (zfx (by rfl) T.f3)))))))
theorem jr(F:Fun K "tuples_between" "tuples_between" wq f fd)(hm:mg "tuples_between"=some (.ref f))  : Has P w K mg base CX0 "tuples_between" 1 Pg.zJ:= (yp F hm (F.binds (ps:=["size","least","most"]) (by trivial)) xr rfl λcdv A outer s H E hr hc=> have hu:=hr.units;(zj (wg 3 xr.nd (jX (aT (vH zf) zf))) (zj (z09 _ap hc (uv (by rfl) T.f13 (aN (zc 0) zf)) (uR 4 xr.nd) (zr (zcF 3 ["least","most","ahead","number"] [some 1,some 2,none,none] 2 3 xr.nd hc (qK (zc 3)) (λ_ _ _=>yE (i:=2) zeV (by rfl) (by first | exact Or.inl rfl | exact Or.inr rfl)) (λ_ _ _=>yE (i:=3) zeV (by rfl) (by first | exact Or.inl rfl | exact Or.inr rfl)) (λ_ _ _=>(z9K (by rfl) T.f13 (aN (zc 0) (aB (yg wJ (zc 1) zB) zf)))) (λ_ _ _=>(yg wJ (zc 2) (vH (aN (zc 3) zf))))))) (zr (yr (zc 3))))))
theorem z4p (F:Fun K "together" "together" qW f fd) (hm:mg "together"=some (.ref f))  : Has P w K mg base CX0 "together" 1 Pg.zE:= (yp F hm (F.binds (ps:=["line","numbers"]) (by trivial)) z4U rfl λcdv A outer s H E hr hc=> have hu:=hr.units;(zr (yr (zF (zeQ (by exact hc)) (by rfl) T.f16 zaV (aO (wc ["one","other"] [none,none] (by exact hc) (zbD (by rfl) T.f18 (aN (zc 0) (aN (zc 1) zf))) (λ_ _ _=>z2W 0 1 (by exact hc) zhB) (z2a 0 1 (by decide) (by rfl) (by rfl)) (λ_ _ _=>wt) (λ_ _ _=>(yg z0W (zc 0) (zc 1)))) zf) (he:=(yB ..))))))
theorem z6H (F:Fun K "weight" "weight" z0T f fd) (hm:mg "weight"=some (.ref f))  : Has P w K mg base CX0 "weight" 1 Pg.uf:= (yp F hm (F.binds (ps:=["line"]) (by trivial)) z8f rfl λcdv A outer s H E hr hc=> have hu:=hr.units;(zr (yr (zF (z1N (by exact hc)) (by rfl) T.f11 kB (aO (wc ["number"] [none] (by exact hc) (qK (zc 0)) (λ_ _ _=>yE (i:=0) zbB (by rfl) (by first | exact Or.inl rfl | exact Or.inr rfl)) (xy 0 (by rfl)) (λ_ _ _=>wt) (λ_ _ _=>(zF zgG (by rfl) T.f4 zdy (aN (zc 0) zf) (he:=(zA ..))))) zf) (he:=(yB ..))))))
theorem z6t (F:Fun K "turned" "turned" z0x f fd) (hm:mg "turned"=some (.ref f))  : Has P w K mg base CX0 "turned" 1 Pg.wA:= (yp F hm (F.binds (ps:=["line"]) (by trivial)) z7N rfl λcdv A outer s H E hr hc=> have hu:=hr.units;(zr (yr (uW ku (by rfl) T.f17 xt (aO (wc ["number"] [none] (by exact hc) (qK (zc 0)) (λ_ _ _=>yE (i:=0) zbB (by rfl) (by first | exact Or.inl rfl | exact Or.inr rfl)) (xy 0 (by rfl)) (λ_ _ _=>wt) (λ_ _ _=>(z6d (zc 0)))) zf) (he:=(yB ..))))))
theorem z7i (F:Fun K "above" "above" z3f f fd) (hm:mg "above"=some (.ref f))  : Has P w K mg base CX0 "above" 1 Pg.uz:= (yp F hm (F.binds (ps:=["line"]) (by trivial)) z9E rfl λcdv A outer s H E hr hc=> have hu:=hr.units;(zr (yr (uW ku (by rfl) T.f17 xt (aO (wc ["number"] [none] (by exact hc) (qK (zc 0)) (λ_ _ _=>yE (i:=0) zbB (by rfl) (by first | exact Or.inl rfl | exact Or.inr rfl)) (xy 0 (by rfl)) (λ_ _ _=>wt) (λ_ _ _=>(zF (zbt (by exact hc)) (by rfl) T.f11 kB (aN (zc 0) (aK zB zf)) (he:=(zA ..))))) zf) (he:=(yB ..))))))
theorem z0f (F:Fun K "_law_cell_at" "_law_cell_at" vc f fd) (hm:mg "_law_cell_at"=some (.ref f))  : Has P w K mg base CX0 "_law_cell_at" 1 Pg.yT:= (yp F hm (F.binds (ps:=["_law_script","_law_k"]) (by trivial)) z0J rfl λcdv A outer s H E hr hc=> have hu:=hr.units;(zj (z0t (wl zh8 (zc 1) (zF uZ (by rfl) T.f9 wF (aN (zc 0) zf) (he:=(zA ..)))) (zr (yr (z28 (zc 0) (zc 1)))) xj) (zr (yr zB))))
theorem z4j(F:Fun K "_law_pot" "_law_pot" jj f fd)(hm:mg "_law_pot"=some (.ref f))  : Has P w K mg base CX0 "_law_pot" 1 Pg.wX:= (yp F hm (F.binds (ps:=["_law_cell"]) (by trivial)) wx rfl λcdv A outer s H E hr hc=> have hu:=hr.units;(zj (z0t (wl zgw (zc 0) (yg zew zB zB)) (zr (yr (zar (aB (yg za0 (zc 0) (yg zew zB zB)) zf)))) xj) (zj (wg 1 wx.nd zB) (zj (z09 _ap hc (uv (by rfl) T.f13 (aK zB zf)) (uR 2 wx.nd) (zj (wg 3 wx.nd (yg z9B (yg z0W (yg wJ (yg wJ (yg z9B (zc 0) zB) (yg z0W zB (zc 2))) zB) zB) zB)) (zj (wg 3 wx.nd (yg z9B (yg wJ (yg wJ (yg z0W (zc 3) (zc 3)) (yg z0W zB (zc 2))) zB) zB)) (zr (wg 1 wx.nd (yg wJ (yg z0W (zc 1) zB) (zc 3))))))) (zr (yr (zar (aN (zc 1) zf))))))))
theorem z2c(F:Fun K "_law_take" "_law_take" qE f fd)(hm:mg "_law_take"=some (.ref f))  : Has P w K mg base CX0 "_law_take" 1 Pg.zk:= (yp F hm (F.binds (ps:=["_law_pot_here","_law_far"]) (by trivial)) kF rfl λcdv A outer s H E hr hc=> have hu:=hr.units;(zj (wg 2 kF.nd (yg z9B (z28 (zc 0) zB) (zc 1))) (zj (z5M (yg zba (z28 (zc 0) zB) (zc 1)) (zc 0) zB) (zr (yr (zc 2))))))
theorem z1p(F:Fun K "_law_whole" "_law_whole" uE f fd)(hm:mg "_law_whole"=some (.ref f))  : Has P w K mg base CX0 "_law_whole" 1 Pg.zI:= (yp F hm (F.binds (ps:=["_law_found"]) (by trivial)) z2J rfl λcdv A outer s H E hr hc=> have hu:=hr.units;(zr (yr (ki (z3g (by decide) z8o (by rfl) T.f8 (by rfl) T.f7 (zc 0)) (z06 (ze5 (z3g (by decide) z2X (by rfl) T.f8 (by rfl) T.f6 (zc 0))))))))
theorem z3B (F:Fun K "_law_sum" "_law_sum" jf f fd) (hm:mg "_law_sum"=some (.ref f))  : Has P w K mg base CX0 "_law_sum" 1 Pg.xT:= (yp F hm (F.binds (ps:=["_law_one","_law_lot"]) (by trivial)) z4L rfl λcdv A outer s H E hr hc=> have hu:=hr.units;(zr (yr (zF (zeQ (by exact hc)) (by rfl) T.f16 zaV (aO (wc ["_law_mine","_law_own"] [none,none] (by exact hc) (zbD (by rfl) T.f18 (aN (zc 0) (aN (zc 1) zf))) (λ_ _ _=>z2W 0 1 (by exact hc) zhw) (z2a 0 1 (by decide) (by rfl) (by rfl)) (λ_ _ _=>wt) (λ_ _ _=>(yg z0W (zc 0) (zc 1)))) zf) (he:=(yB ..))))))
theorem z1D(F:Fun K "_law_every" "_law_every" uh f fd)(hm:mg "_law_every"=some (.ref f))  : Has P w K mg base CX0 "_law_every" 1 xS:= (yp F hm (F.binds (ps:=["_law_size","_law_number"]) (by trivial)) xw rfl λcdv A outer s H E hr hc=> have hu:=hr.units;(zj (wg 2 xw.nd (jX (aT (vH zf) zf))) (zj (z09 _ap hc (uv (by rfl) T.f13 (aN (zc 0) zf)) (uR 3 xw.nd) (zj (wg 4 xw.nd (zar zf)) (zj (z09 _ap hc (qK (zc 2)) (uR 5 xw.nd) (zr (kU (zaa (zc 4) (wc ["_law_begun","_law_one"] [some 5,none] (by exact hc) (uv (by rfl) T.f13 (aB (yg wJ (zc 1) zB) zf)) (λ_ _ _=>yE (i:=1) zhh (by rfl) (by first | exact Or.inl rfl | exact Or.inr rfl)) (xy 1 (by rfl)) (λ_ _ _=>wt) (λ_ _ _=>(yg wJ (zc 0) (vH (aN (zc 1) zf))))))))) (zr (wg 2 xw.nd (zc 4)))))) (zr (yr (zc 2)))))).tidy
theorem z1u (F:Fun K "are_wholes" "are_wholes" ud f fd) (hm:mg "are_wholes"=some (.ref f)) (H_is_whole:Has P w K mg base CX0 "is_whole" 1 Pg.yD):Has P w K mg base CX0 "are_wholes" 2 Pg.zH:= (yp F hm (F.binds (ps:=["thing","many"]) (by trivial)) z2F rfl λcdv A outer s H E hr hc=> have hu:=hr.units;(zj (z0t (RW.rt (z99 (jg (qg (z3g (by decide) xt (by rfl) T.f8 (by rfl) T.f17 (zc 0)))) (z2K (wl (zdc hu) (zF uZ (by rfl) T.f9 wF (aN (zc 0) zf) (he:=(zA ..))) (zc 1))))) (zr (yr z72)) xj) (zr (yr (zF (zcj (by exact hc)) (by rfl) T.f5 z79 (aO (wc ["part"] [none] (by exact hc) (qK (zc 0)) (λ_ _ _=>yE (i:=0) zhi (by rfl) (by first | exact Or.inl rfl | exact Or.inr rfl)) (xy 0 (by rfl)) (λ_ _ _=>wt) (λ_ _ _=>(xV H_is_whole hr zM (aN (zc 0) zf)))) zf) (he:=(yB ..)))))))
theorem z17(F:Fun K "want_number" "want_number" vJ f fd)(hm:mg "want_number"=some (.ref f))(H_is_whole:Has P w K mg base CX0 "is_whole" 1 Pg.yD):Has P w K mg base CX0 "want_number" 2 Pg.xu:= (yp F hm (F.binds (ps:=["thing","least","most"]) (by trivial)) z1t rfl λcdv A outer s H E hr hc=> have hu:=hr.units;(zr (z0t (RW.rt (z99 (jg (qg (xV H_is_whole hr zM (aN (zc 0) zf)))) (z2K (jg (zcm zds zds (zc 1) (zc 0) (zc 2)))))) (zr z4I) xj)))
theorem qJ (F:Fun K "relations_within" "relations_within" xO f fd) (hm:mg "relations_within"=some (.ref f)) (H_tuples_between:Has P w K mg base CX0 "tuples_between" 1 Pg.zJ) (H_together:Has P w K mg base CX0 "together" 1 Pg.zE) (H_weight:Has P w K mg base CX0 "weight" 1 Pg.uf):Has P w K mg base CX0 "relations_within" 2 Pg.zt:= (yp F hm (F.binds (ps:=["lot","most"]) (by trivial)) zL rfl λcdv A outer s H E hr hc=> have hu:=hr.units;(zj (wg 2 zL.nd (yg zba (zF uZ (by rfl) T.f9 wF (aN (zc 0) zf) (he:=(zA ..))) zB)) (zj (wg 3 zL.nd zb8) (zj (z09 _ap hc (qK (xV H_tuples_between hr zM (aN (zc 2) (aU (z6d (zc 1)) (aN (zc 1) zf))))) (uR 4 zL.nd) (zr (kU (zdI 4 (zc 3) (xV H_together hr zM (aN (zc 4) (aS (qh (zc 0) kI (kP (zc 2))) zf))))))) (zj (wg 5 zL.nd (zar zf)) (zj (z09 _ap hc (qK (xV H_tuples_between hr zM (aB (yg za0 (zF uZ (by rfl) T.f9 wF (aN (zc 0) zf) (he:=(zA ..))) (zc 2)) (aU (z6d (zc 1)) (aN (zc 1) zf))) (he:=(z5A ..)))) (uR 6 zL.nd) (zr (zef 5 zL.nd (wc ["second","first"] [some 6,none] (by exact hc) (qK (zc5 hu (zc 3) (z6d (xV H_together hr zM (aN (zc 6) (aS (qh (zc 0) (kP (zc 2)) kI) zf)))))) (λ_ _ _=>yE (i:=1) zgJ (by rfl) (by first | exact Or.inl rfl | exact Or.inr rfl)) (xy 1 (by rfl)) (λ_ _ _=>wt) (λ_ _ _=>(yg wJ (zc 1) (zc 0))))))) (zr (yr (zF zbY (by rfl) T.f14 z3j (aO (wc ["line"] [none] (by exact hc) (qK (zc 5)) (λ_ _ _=>yE (i:=0) zh0 (by rfl) (by first | exact Or.inl rfl | exact Or.inr rfl)) (xy 0 (by rfl)) (λ_ _ _=>z4F (wl zfg (xV H_weight hr zM (aN (zc 0) zf)) zB)) (λ_ _ _=>(zc 0))) zf) (he:=(yB ..))))))))))).tidy
theorem wC (F:Fun K "_law_same" "_law_same" vz f fd) (hm:mg "_law_same"=some (.ref f)) (H__law_whole:Has P w K mg base CX0 "_law_whole" 1 Pg.zI) (k:Nat) (Hr:Has P w K mg base CX0 "_law_same" (k+1) (Pg.xi k)):Has P w K mg base CX0 "_law_same" (k+1+1) (Pg.xi (k+1)):= (yp F hm (F.binds (ps:=["_law_found","_law_due"]) (by trivial)) z4z rfl λcdv A outer s H E hr hc=> have hu:=hr.units;(zj (z0t (wl zfO (zc 1) z4h) (zr (yr (wQ zfO (zc 0) z4h))) xj) (zj (z0t (qg (z3g (by decide) z2X (by rfl) T.f8 (by rfl) T.f6 (zc 1))) (zr (yr (ki (z3g (by decide) z2X (by rfl) T.f8 (by rfl) T.f6 (zc 0)) (z06 (wQ (z7B hu) (zc 0) (zc 1)))))) xj) (zj (z0t (qg (z3g (by decide) z8o (by rfl) T.f8 (by rfl) T.f7 (zc 1))) (zr (yr (ki (z8R H__law_whole (hr.mono (by omega)) zM (by rfl) (aN (zc 0) zf)) (z06 (wQ (z7B hu) (zc 0) (zc 1)))))) xj) (zj (z0t (qg (z3g (by decide) zb0 (by rfl) T.f8 (by rfl) T.f15 (zc 1))) (zr (yr (ki (z3g (by decide) zb0 (by rfl) T.f8 (by rfl) T.f15 (zc 0)) (z06 (wQ (z7B hu) (zc 0) (zc 1)))))) xj) (zj (z0t (RW.rt (z99 (wl (zdc hu) (z3g (by decide) xt (by rfl) T.f8 (by rfl) T.f17 (zc 1)) (z3g (by decide) xt (by rfl) T.f8 (by rfl) T.f17 (zc 0))) (z2K (wl (zdc hu) (z3g (by decide) z2y (by rfl) T.f8 (by rfl) T.f10 (zc 1)) (z3g (by decide) z2y (by rfl) T.f8 (by rfl) T.f10 (zc 0)))))) (zr (yr z72)) xj) (zr (yr (ki (wQ (z7B hu) (zF uZ (by rfl) T.f9 wF (aN (zc 0) zf) (he:=(zA ..))) (zF uZ (by rfl) T.f9 wF (aN (zc 1) zf) (he:=(zA ..)))) (z06 (zF (zcj (by exact hc)) (by rfl) T.f5 z79 (aO (wc ["_law_one","_law_other"] [none,none] (by exact hc) (zbD (by rfl) T.f18 (aN (zc 0) (aN (zc 1) zf))) (λ_ _ _=>z2W 0 1 (by exact hc) zhz) (z2a 0 1 (by decide) (by rfl) (by rfl)) (λ_ _ _=>wt) (λ_ _ _=>(z8R Hr hr zM (by rfl) (aN (zc 0) (aN (zc 1) zf))))) zf) (he:=(yB ..)))))))))))))
theorem z2G(F:Fun K "_law_same" "_law_same" vz f fd)(hm:mg "_law_same"=some (.ref f))(H__law_whole:Has P w K mg base CX0 "_law_whole" 1 Pg.zI):Has P w K mg base CX0 "_law_same" 5 Pg.yV:= (wC T F hm H__law_whole 3 (wC T F hm H__law_whole 2 (wC T F hm H__law_whole 1 (wC T F hm H__law_whole 0 ((zf2 F hm (F.binds (ps:=["_law_found","_law_due"]) (by trivial))).mono (by decide))))))
theorem jG (F:Fun K "_law_small_lot" "_law_small_lot" wz f fd) (hm:mg "_law_small_lot"=some (.ref f)) (H__law_take:Has P w K mg base CX0 "_law_take" 1 Pg.zk):Has P w K mg base CX0 "_law_small_lot" 2 Pg.yR:= (yp F hm (F.binds (ps:=["_law_pot_here","_law_size"]) (by trivial)) yC rfl λcdv A outer s H E hr hc=> have hu:=hr.units;(zj (wg 2 yC.nd (z28 (jX (aK zB (aK zB (aK zB zf)))) (xV H__law_take hr zM (aN (zc 0) (aK zB zf))))) (zj (zcJ 3 ["_law_pot_here","_law_far","_law_place"] [some 0,some 2,none] yC.nd hc (uv (by rfl) T.f13 (aN (zc 1) zf)) (λ_ _ _=>yE (i:=2) zhQ (by rfl) (by first | exact Or.inl rfl | exact Or.inr rfl)) (xy 2 (by rfl)) (λ_ _ _=>wt) (λ_ _ _=>(xV H__law_take hr zM (aN (zc 0) (aN (zc 1) zf))))) (zj (zf6 4 5 hc yC.nd (aQ (xV H__law_take hr zM (aN (zc 0) (aN (zc 1) zf))) (aQ (xV H__law_take hr zM (aN (zc 0) (aN (zc 1) zf))) zf))) (zj (wg 6 yC.nd (xV H__law_take hr zM (aN (zc 0) (aK zB zf)))) (zj (z0t (wl (z7B hu) (zc 6) zB) (zr (z5M zB (zc 3) (zc 4))) xj) (zj (z0t (wl (z7B hu) (zc 6) zB) (zr (z5M (z28 (zc 3) (zc 5)) (zc 3) (zc 4))) xj) (zj (z0t (wl (z7B hu) (zF (z1N (by exact hc)) (by rfl) T.f11 kB (aN (zc 3) zf) (he:=(zA ..))) zB) (zr (z5M (yg wJ zB (xV H__law_take hr zM (aN (zc 0) (aB (yg za0 (zc 2) zB) zf)))) (zc 3) (zc 5))) xj) (zr (yr (uW ku (by rfl) T.f17 xt (aN (zc 3) zf) (he:=(zA ..))))))))))))).tidy
theorem z0a (F:Fun K "_law_clashes" "_law_clashes" vh f fd) (hm:mg "_law_clashes"=some (.ref f)) (H__law_sum:Has P w K mg base CX0 "_law_sum" 1 Pg.xT) (H__law_every:Has P w K mg base CX0 "_law_every" 1 xS):Has P w K mg base CX0 "_law_clashes" 2 yU:= (yp F hm (F.binds (ps:=["_law_lot","_law_number"]) (by trivial)) wj rfl λcdv A outer s H E hr hc=> have hu:=hr.units;(zj (wg 2 wj.nd zb8) (zj (z09 _ap hc (qK (zf5 (xV H__law_every hr zM (aQ (zF uZ (by rfl) T.f9 wF (aN (zc 0) zf) (he:=(zA ..))) (aN (zc 1) zf)) (he:=(wD ..))))) (uR 3 wj.nd) (zj (wg 4 wj.nd (xV H__law_sum hr zM (aN (zc 3) (aN (zc 0) zf)))) (zr (zdG 2 4 3)))) (zr (yr (zF (zbU hu) (by rfl) T.f14 z3j (aO (wc ["_law_known","_law_key"] [some 2,none] (by exact hc) (zeL (zc 2)) (λ_ _ _=>yE (i:=1) zhc (by rfl) (by first | exact Or.inl rfl | exact Or.inr rfl)) (xy 1 (by rfl)) (λ_ _ _=>z4F (wl zfg (zF uZ (by rfl) T.f9 wF (aS (z7d hu (zc 0) (zc 1)) zf) (he:=(qH ..))) zB)) (λ_ _ _=>(uW ku (by rfl) T.f17 xt (aS (qh (z7d hu (zc 0) (zc 1)) kI (kP zB)) zf) (he:=(qH ..))))) zf) (he:=(yB ..)))))))).tidy
theorem jN (F:Fun K "_law_is_clash" "_law_is_clash" wO f fd) (hm:mg "_law_is_clash"=some (.ref f)) (H__law_whole:Has P w K mg base CX0 "_law_whole" 1 Pg.zI) (H__law_sum:Has P w K mg base CX0 "_law_sum" 1 Pg.xT):Has P w K mg base CX0 "_law_is_clash" 2 zS:= (yp F hm (F.binds (ps:=["_law_lot","_law_number","_law_thing"]) (by trivial)) uP rfl λcdv A outer s H E hr hc=> have hu:=hr.units;(zj (z0t (RW.rt (z99 (jg (qg (z3g (by decide) xt (by rfl) T.f8 (by rfl) T.f17 (zc 2)))) (z2K (wl (zdc hu) (zF uZ (by rfl) T.f9 wF (aN (zc 2) zf) (he:=(zA ..))) zB)))) (zr (yr z72)) xj) (zj (z09 _ap hc (qK (zc 2)) (uR 3 uP.nd) (zj (z0t (RW.rt (z99 (jg (qg (z3g (by decide) xt (by rfl) T.f8 (by rfl) T.f17 (zc 3)))) (z99 (wl (zdc hu) (zF uZ (by rfl) T.f9 wF (aN (zc 3) zf) (he:=(zA ..))) (zF uZ (by rfl) T.f9 wF (aN (zc 0) zf) (he:=(zA ..)))) (z2K (jg (qg (zF (zcj (by exact hc)) (by rfl) T.f5 z79 (aO (wc ["_law_many"] [none] (by exact hc) (qK (zc 3)) (λ_ _ _=>yE (i:=0) zfC (by rfl) (by first | exact Or.inl rfl | exact Or.inr rfl)) (xy 0 (by rfl)) (λ_ _ _=>wt) (λ_ _ _=>(xV H__law_whole hr zM (aN (zc 0) zf)))) zf) (he:=(yB ..))))))))) (zr (yr z72)) xj) (zr (z0t (RW.rt (z99 (wl zh8 (zF (z7u (by exact hc)) (by rfl) T.f12 z44 (aN (zc 3) zf) (he:=(zA ..))) zB) (z2K (wl zfg (zF (z1N (by exact hc)) (by rfl) T.f11 kB (aN (zc 3) zf) (he:=(zA ..))) (zc 1))))) (zr (yr z72)) xj)))) (zr (yr (ki (wQ (zcy (_bU (_bq _ _) hu)) (z28 (zc 2) zB) (z28 (zc 2) zB)) (z06 (wQ (z7B hu) (xV H__law_sum hr zM (aS (z28 (zc 2) zB) (aN (zc 0) zf)) (he:=(qH ..))) (xV H__law_sum hr zM (aS (z28 (zc 2) zB) (aN (zc 0) zf)) (he:=(qH ..)))))))))))
theorem z2f (F:Fun K "_law_bent" "_law_bent" qo f fd) (hm:mg "_law_bent"=some (.ref f)) (H__law_take:Has P w K mg base CX0 "_law_take" 1 Pg.zk):Has P w K mg base CX0 "_law_bent" 2 yH:= (yp F hm (F.binds (ps:=["_law_pot_here","_law_pair","_law_number"]) (by trivial)) yG rfl λcdv A outer s H E hr hc=> have hu:=hr.units;(zj (zf6 3 4 hc yG.nd (aQ (xV H__law_take hr zM (aN (zc 0) (aK zB zf))) (aQ (xV H__law_take hr zM (aN (zc 0) (aQ (zF uZ (by rfl) T.f9 wF (aS (z28 (zc 1) zB) zf) (he:=(qH ..))) zf))) zf))) (zj (wg 5 yG.nd (z28 (zc 1) (zc 3))) (zj (wg 6 yG.nd (z28 (jX (aB (yg wJ (z28 (zc 5) (zc 4)) zB) (aB (yg za0 (z28 (zc 5) (zc 4)) zB) (aB (yg wJ (zc 2) zB) (aU (z6d zB) (aK z72 (aK z4h (aK zf4 (aT (vH (aK zB zf)) (aK zB zf)))))))))) (xV H__law_take hr zM (aN (zc 0) (aK zB zf))))) (zj (wg 7 yG.nd (yg wJ (yg wJ (qh (zc 5) kI (kP (zc 4))) (vH (aN (zc 6) zf))) (qh (zc 5) (kP (yg wJ (zc 4) zB)) kI))) (zj (wg 8 yG.nd (z28 (jX (aN (zc 7) (aN (zc 7) (aN (zc 7) (aS (qh (zc 5) (kP zB) kI) (aB (yg wJ (zc 5) (vH (aK zB zf))) (aQ (uW zaQ (by rfl) T.f10 z2y (aN (zc 5) zf) (he:=(zA ..))) (aK z4h (aN (zc 5) zf))))))))) (xV H__law_take hr zM (aN (zc 0) (aK zB zf))))) (zj (wg 9 yG.nd (z28 (jX (aT (vH (aN (zc 8) (aS (z28 (zc 1) zB) zf))) (aT (vH (aS (z28 (zc 1) zB) (aN (zc 8) zf))) zf))) (zc 3))) (zj (wg 10 yG.nd (jX (aS (zfm (zc 1)) (aQ (uW zaQ (by rfl) T.f10 z2y (aN (zc 1) zf) (he:=(zA ..))) (aB (yg wJ (zc 1) (vH (aN (zc 5) zf))) (aT (vH (aN (zc 5) zf)) (aT (vH (aN (zc 5) (aN (zc 5) zf))) (aK z4h (aK zB (aK zf4 (aN (zc 1) zf))))))))))) (zr (yr (z28 (yg wJ (jX (aN (zc 9) (aN (zc 9) (aN (zc 9) zf)))) (zc 10)) (xV H__law_take hr zM (aN (zc 0) (aK zB zf))))))))))))))
theorem z67 (F:Fun K "is_lot" "is_lot" z1h f fd) (hm:mg "is_lot"=some (.ref f)) (H_has_size:Has P w K mg base CX0 "has_size" 1 Pg.wW) (H_are_wholes:Has P w K mg base CX0 "are_wholes" 2 Pg.zH):Has P w K mg base CX0 "is_lot" 3 Pg.um:= (yp F hm (F.binds (ps:=["thing"]) (by trivial)) z7s rfl λcdv A outer s H E hr hc=> have hu:=hr.units;(zj (z0t (RW.rt (z99 (jg (qg (xV H_has_size hr zM (aN (zc 0) zf)))) (z2K (jg (qg (xV H_are_wholes hr zM (aN (zc 0) (aQ (zF uZ (by rfl) T.f9 wF (aN (zc 0) zf) (he:=(zA ..))) zf)))))))) (zr (yr z72)) xj) (zr (yr (ki (wQ zgw (zF (z7u (by exact hc)) (by rfl) T.f12 z44 (aN (zc 0) zf) (he:=(zA ..))) zB) (z06 (wQ zfg (zF (z1N (by exact hc)) (by rfl) T.f11 kB (aN (zc 0) zf) (he:=(zA ..))) zB)))))))
theorem z2U (F:Fun K "is_taking" "is_taking" qD f fd) (hm:mg "is_taking"=some (.ref f)) (H_are_wholes:Has P w K mg base CX0 "are_wholes" 2 Pg.zH):Has P w K mg base CX0 "is_taking" 3 Pg.yf:= (yp F hm (F.binds (ps:=["lot","number","thing"]) (by trivial)) z3L rfl λcdv A outer s H E hr hc=> have hu:=hr.units;(zr (yr (ki (xV H_are_wholes hr zM (aN (zc 2) (aQ (zF uZ (by rfl) T.f9 wF (aN (zc 0) zf) (he:=(zA ..))) zf))) (ki (wQ zgw (zF (z7u (by exact hc)) (by rfl) T.f12 z44 (aN (zc 2) zf) (he:=(zA ..))) zB) (z06 (wQ zds (zF (z1N (by exact hc)) (by rfl) T.f11 kB (aN (zc 2) zf) (he:=(zA ..))) (zc 1))))))))
theorem z4s(F:Fun K "want_lot" "want_lot" qX f fd)(hm:mg "want_lot"=some (.ref f))(H_is_lot:Has P w K mg base CX0 "is_lot" 3 Pg.um):Has P w K mg base CX0 "want_lot" 4 Pg.wv:= (yp F hm (F.binds (ps:=["thing"]) (by trivial)) z4H rfl λcdv A outer s H E hr hc=> have hu:=hr.units;(zr (z0t (jg (qg (xV H_is_lot hr zM (aN (zc 0) zf)))) (zr z4I) xj)))
theorem z1y (F:Fun K "want_small" "want_small" uo f fd) (hm:mg "want_small"=some (.ref f)) (H_want_lot:Has P w K mg base CX0 "want_lot" 4 Pg.wv):Has P w K mg base CX0 "want_small" 5 Pg.xq:= (yp F hm (F.binds (ps:=["lot"]) (by trivial)) z30 rfl λcdv A outer s H E hr hc=> have hu:=hr.units;(zj (kU (xV H_want_lot hr zM (aN (zc 0) zf))) (zr (z0t (wl zfg (zF (z1N (by exact hc)) (by rfl) T.f11 kB (aN (zc 0) zf) (he:=(zA ..))) (zfx (by rfl) T.f1)) (zr z4I) xj))))
theorem vR(F:Fun K "want_small_and_often" "want_small_and_often" yM f fd)(hm:mg "want_small_and_often"=some (.ref f))(H_want_number:Has P w K mg base CX0 "want_number" 2 Pg.xu)(H_want_small:Has P w K mg base CX0 "want_small" 5 Pg.xq):Has P w K mg base CX0 "want_small_and_often" 6 Pg.zh:= (yp F hm (F.binds (ps:=["lot","number"]) (by trivial)) uw rfl λcdv A outer s H E hr hc=> have hu:=hr.units;(zj (kU (xV H_want_small hr zM (aN (zc 0) zf))) (zr (kU (xV H_want_number hr zM (aN (zc 1) (aK zB (aN (zfx (by rfl) T.f2) zf))))))))
theorem z3H(F:Fun K "has_none" "has_none" ji f fd)(hm:mg "has_none"=some (.ref f))(H_relations_within:Has P w K mg base CX0 "relations_within" 2 Pg.zt)(H_want_small_and_often:Has P w K mg base CX0 "want_small_and_often" 6 Pg.zh):Has P w K mg base CX0 "has_none" 7 Pg.wY:= (yp F hm (F.binds (ps:=["lot","number"]) (by trivial)) z4Y rfl λcdv A outer s H E hr hc=> have hu:=hr.units;(zj (kU (xV H_want_small_and_often hr zM (aN (zc 0) (aN (zc 1) zf)))) (zr (yr (zeN (xV H_relations_within hr zM (aN (zc 0) (aN (zc 1) zf))))))))
theorem z4A (F:Fun K "is_clash" "is_clash" qY f fd) (hm:mg "is_clash"=some (.ref f)) (H_together:Has P w K mg base CX0 "together" 1 Pg.zE) (H_is_taking:Has P w K mg base CX0 "is_taking" 3 Pg.yf) (H_want_small_and_often:Has P w K mg base CX0 "want_small_and_often" 6 Pg.zh):Has P w K mg base CX0 "is_clash" 7 Pg.xz:= (yp F hm (F.binds (ps:=["lot","number","thing"]) (by trivial)) z0z rfl λcdv A outer s H E hr hc=> have hu:=hr.units;(zj (kU (xV H_want_small_and_often hr zM (aN (zc 0) (aN (zc 1) zf)))) (zj (z0t (RW.rt (z99 (jg (qg (z3g (by decide) xt (by rfl) T.f8 (by rfl) T.f17 (zc 2)))) (z2K (wl (zdc hu) (zF uZ (by rfl) T.f9 wF (aN (zc 2) zf) (he:=(zA ..))) zB)))) (zr (yr z72)) xj) (zj (zfF (zc 2) (zdJ 3 4 hc z0z.nd)) (zj (z0t (RW.rt (z99 (jg (qg (xV H_is_taking hr zM (aN (zc 0) (aN (zc 1) (aN (zc 3) zf)))))) (z2K (jg (qg (xV H_is_taking hr zM (aN (zc 0) (aN (zc 1) (aN (zc 4) zf))))))))) (zr (yr z72)) xj) (zr (yr (ki (wQ (zcy (_bU (_bq _ _) hu)) (zc 3) (zc 4)) (z06 (wQ (z7B hu) (xV H_together hr zM (aN (zc 3) (aN (zc 0) zf))) (xV H_together hr zM (aN (zc 4) (aN (zc 0) zf)))))))))))))
theorem z11 (F:Fun K "first_clash" "first_clash" vO f fd) (hm:mg "first_clash"=some (.ref f)) (H_turned:Has P w K mg base CX0 "turned" 1 Pg.wA) (H_above:Has P w K mg base CX0 "above" 1 Pg.uz) (H_relations_within:Has P w K mg base CX0 "relations_within" 2 Pg.zt) (H_want_small_and_often:Has P w K mg base CX0 "want_small_and_often" 6 Pg.zh):Has P w K mg base CX0 "first_clash" 7 Pg.zR:= (yp F hm (F.binds (ps:=["lot","number"]) (by trivial)) qQ rfl λcdv A outer s H E hr hc=> have hu:=hr.units;(zj (kU (xV H_want_small_and_often hr zM (aN (zc 0) (aN (zc 1) zf)))) (zj (zbS 2 ["line"] [none] qQ.nd hc (qK (xV H_relations_within hr zM (aN (zc 0) (aN (zc 1) zf)))) (λ_ _ _=>yE (i:=0) zh0 (by rfl) (by first | exact Or.inl rfl | exact Or.inr rfl)) (xy 0 (by rfl)) (λ_ _ _=>z4F (wl (zcy (_bU (_bq _ _) hu)) (xV H_turned hr zM (aN (zc 0) zf)) (zc 0))) (λ_ _ _=>(vH (aQ (xV H_above hr zM (aQ (xV H_turned hr zM (aN (zc 0) zf)) zf) (he:=(wD ..))) (aQ (xV H_above hr zM (aN (zc 0) zf)) zf))))) (zr (yr (zdL (by exact hc) hu (zc 2) z4h (by rfl) T.f12 z44))))))
theorem z64 (F:Fun K "law" "law" z1I f fd) (hm:mg "law"=some (.ref f)) (H__law_cell_at:Has P w K mg base CX0 "_law_cell_at" 1 Pg.yT) (H__law_pot:Has P w K mg base CX0 "_law_pot" 1 Pg.wX) (H__law_take:Has P w K mg base CX0 "_law_take" 1 Pg.zk) (H__law_same:Has P w K mg base CX0 "_law_same" 5 Pg.yV) (H__law_small_lot:Has P w K mg base CX0 "_law_small_lot" 2 Pg.yR) (H__law_clashes:Has P w K mg base CX0 "_law_clashes" 2 yU) (H__law_is_clash:Has P w K mg base CX0 "_law_is_clash" 2 zS) (H__law_bent:Has P w K mg base CX0 "_law_bent" 2 yH) (H_has_none:Has P w K mg base CX0 "has_none" 7 Pg.wY) (H_is_clash:Has P w K mg base CX0 "is_clash" 7 Pg.xz) (H_first_clash:Has P w K mg base CX0 "first_clash" 7 Pg.zR):z3h P w K mg base CX0 8 f fd ["_law_script"] (zde ⟨mg,K⟩ zcC):= ze1 F uM rfl λcdv A outer s H E hr hc=>by
  have hu:=hr.units;refine zj ?_ ?_
  ·refine z09 _ap hc (uv (by rfl) T.f13 (aQ (zF (zbt (by exact hc)) (by rfl) T.f11 kB (aK zB (aQ (zF (zeB (by exact hc)) (by rfl) T.f12 z44 (aQ (zF uZ (by rfl) T.f9 wF (aN (zc 0) zf) (he:=(zA ..))) (aK zB zf)) (he:=(wD ..))) zf)) (he:=(z1W ..))) zf)) (uR 1 uM.nd) ?_;refine zj ?_ ?_;·exact (wg 2 uM.nd (xV H__law_pot hr zM (aQ (xV H__law_cell_at hr zM (aN (zc 0) (aN (zc 1) zf))) zf) (he:=(wD ..))))
   refine zj ?_ ?_;·exact (wg 3 uM.nd (yg wJ zB (xV H__law_take hr zM (aN (zc 2) (aK zB zf)))))
   refine zj ?_ ?_;·exact (wg 4 uM.nd (xV H__law_small_lot hr zM (aN (zc 2) (aN (zc 3) zf))))
   refine zj ?_ ?_;·exact (wg 5 uM.nd (yg wJ zB (xV H__law_take hr zM (aN (zc 2) (aK zB zf)))))
   refine zj ?_ ?_;·exact (wg 6 uM.nd (xV H__law_clashes hr zM (aN (zc 4) (aN (zc 5) zf))))
   refine zj ?_ ?_
   ·refine z09 _ap hc (uv (by rfl) T.f13 (aK zB zf)) (uR 7 uM.nd) ?_;refine zj ?_ ?_
    ·refine z0t (jg (qg (xV H__law_same hr zM (aQ (xV H_first_clash hr zM (aN (zc 4) (aN (zc 5) zf))) (aS (z28 (yg wJ (zc 6) (jX (aK z4h zf))) zB) zf)) (he:=(wD ..))))) ?_ ?_
     ·refine zr ?_;exact (yr z72)
     ·exact xj
    refine zr ?_;refine z0t (jg (qg (xV H__law_same hr zM (aQ (xV H_has_none hr zM (aN (zc 4) (aN (zc 5) zf))) (aM (wQ (z7B hu) (zc 6) (jX zf)) zf)) (he:=(wD ..))))) ?_ ?_
    ·refine zr ?_;exact (yr z72)
    ·exact xj
   refine zj ?_ ?_;·exact (wg 8 uM.nd (jX (aQ (uW ku (by rfl) T.f17 xt (aO (wc ["_law_pot_here","_law_number","_law_size","_law_turn"] [some 2,some 5,some 3,none] (by exact hc) (uv (by rfl) T.f13 (aK zB zf)) (λ_ _ _=>yE (i:=3) zhD (by rfl) (by first | exact Or.inl rfl | exact Or.inr rfl)) (xy 3 (by rfl)) (λ_ _ _=>wt) (λ_ _ _=>(uW ku (by rfl) T.f17 xt (aO (wc ["_law_pot_here","_law_number","_law_place"] [some 0,some 1,none] (by exact hc) (uv (by rfl) T.f13 (aN (zc 2) zf)) (λ_ _ _=>yE (i:=2) zhb (by rfl) (by first | exact Or.inl rfl | exact Or.inr rfl)) (xy 2 (by rfl)) (λ_ _ _=>wt) (λ_ _ _=>(xV H__law_take hr zM (aN (zc 0) (aB (yg wJ (zc 1) zB) zf))))) zf) (he:=(yB ..))))) zf) (he:=(yB ..))) zf)))
   refine zj ?_ ?_;·exact (wg 8 uM.nd (yg wJ (yg wJ (yg wJ (zc 8) (qh (zc 6) kI (kP zB))) (qh (zc 6) (kP (z6d zB)) kI)) (jX (aT (vH (aB (yg zbl (vH (aK zB zf)) (zc 3)) (aB (yg zbl (vH (aN (zc 5) zf)) (zc 3)) zf))) zf))))
   refine zr ?_;refine z09 _ap hc (qK (zc 8)) (uR 9 uM.nd) ?_;refine zr ?_;refine z09 _ap hc (qK (jX (aN (zc 9) (aS (zfm (zc 9)) (aQ (xV H__law_bent hr zM (aN (zc 2) (aN (zc 9) (aN (zc 5) zf)))) (aQ (xV H__law_bent hr zM (aN (zc 2) (aN (zc 9) (aN (zc 5) zf)))) zf)))))) (uR 10 uM.nd) ?_;refine zr ?_;refine z0t (jg (qg (xV H__law_same hr zM (aQ (xV H_is_clash hr zM (aN (zc 4) (aN (zc 5) (aN (zc 10) zf)))) (aQ (xV H__law_is_clash hr zM (aN (zc 4) (aN (zc 5) (aN (zc 10) zf)))) zf)) (he:=(wD ..))))) ?_ ?_
   ·refine zr ?_;exact (yr z72)
   ·exact xj
  refine zr ?_;exact (yr (ki (wQ zfO (xV H_first_clash hr zM (aT (vH (aK zB (aK zB zf))) (aK zB zf)) (he:=(z2O ..))) z4h) (z06 (wQ (z7B hu) (xV H_first_clash hr zM (aT (vH (aK zB (aK zB zf))) (aK zB zf)) (he:=(z2O ..))) (vH (aT (vH (aK zB (aK zB zf))) (aT (vH (aK zB (aK zB zf))) zf)))))))
end
end K52
namespace Pr
open L2 Dd Pm Pg Pn Po
theorem z0j:∀(F:List (List Int)),D.flat.flats (F.map rD)=true
 | []=>rfl | r::T=>by
  have:=z0j T;simp[D.flat.flats,D.flat,this,wZ]
end Pr
namespace Pt
open L2 Dd Pm Pg Pn Po Pr
noncomputable def rngI(m:Nat):List Int:=(List.range (m+1)).map λk:Nat=>((k:Nat):Int)
theorem z5k{m:Nat}{x:Int}:x∈rngI m ↔ 0<=x/\x<=m:=by
 unfold rngI;rw[_y];constructor
 ·rintro⟨k,hk,rfl⟩;rw[_bD]at hk;omega
 ·rintro⟨h0,h1⟩;exact⟨x.toNat,by rw[_bD];omega,by omega⟩
theorem zcs(m:Nat):(rngI m).Pairwise (· < ·):=by
 unfold rngI;rw[_b9];exact List.pairwise_lt_range.imp λ{a b} h=>by omega
noncomputable def xR(n m:Nat):List (List Int):=uS (List.replicate n (rngI m))
theorem z4v(n m:Nat):xR (n+1) m=z1o (xR n m) (rngI m):=by
 unfold xR;rw[_cx,vY]
theorem z0i {n m:Nat}:(xR n m).length<=(m+1) ^ n:=by
 have:=z4m (List.replicate n (rngI m)) (k:=m+1) λc hc=>by rw[_as hc];simp[rngI]
 simpa[xR] using this
theorem z7S(n m:Nat):Up (xR n m):=z5s _ λc hc=>by rw[_as hc];exact zcs m
theorem wU{n m:Nat}{v:List Int}:v∈xR n m ↔ v.length=n/\∀x∈v,0<=x/\x<=m:=by
 unfold xR;rw[z0S,_ch];constructor
 ·rintro⟨h1,h2⟩;refine⟨h1,λx hx=>?_⟩;obtain⟨i,hi,rfl⟩:=_Y.mp hx;have:=h2 i (by omega);rw[show v.getD i 0=v[i] by simp[_S,hi],show (List.replicate n (rngI m)).getD i []=rngI m by simp[_S,show i<n by omega]]at this;exact z5k.mp this
 ·rintro⟨h1,h2⟩;refine⟨h1,λi hi=>?_⟩;rw[show (List.replicate n (rngI m)).getD i []=rngI m by simp[_S,hi]];exact z5k.mpr (h2 _ (Pm.getD_mem (by omega)))
theorem z4f(m:Nat):∀n,∃t,xR n m=List.replicate n 0::t
 | 0=>⟨[],rfl⟩ | n+1=>by
  obtain⟨t,e⟩:=z4f m n;rw[z4v,e,z1o,List.flatMap_cons];have:rngI m=0::(rngI m).tail:=by unfold rngI;rw[List.range_succ_eq_map];rfl
  rw[this,_l,_X,_cx];exact⟨_,rfl⟩
end Pt
namespace Pp
open L2 Dd
open Pm Pg
theorem z2A(s:Sto)(a b:List D):(s++[a]).set s.length b=s++[b]:=by rw[List.set_append_right _ _ (by omega)];simp
open Pn
theorem z6A{x a b:Int}(h1:a<=x)(h2:x<=b)(s:Sto):xu [.int x,.int a,.int b] s=.ok .non s:=by
 have w:yD [.int x] s=.ok (.bl true) s:=z1n (by rfl) s;have st:zK ["thing","least","most"] [.int x,.int a,.int b]=[some (.int x),some (.int a),some (.int b)]:=rfl;simp only[xu,Mof,qR,st,_s,_F,_N];rw[qf,z96];·rfl
 ·refine zau (z8n (vL ?_)) (z8n (vL ?_));·rw[xh (x:=.int x) (by simp)];exact w
  ·simp[h1,h2]
end Pp
namespace Pr
open L2 Dd Pm Pg Pn Po Pp
end Pr
namespace Pt
open L2 Dd Pm Pg Pn Po Pr Pp
end Pt
namespace Pv
open L2 Dd Pm Pg Pn Po Pr Pp Pt
noncomputable def z6y(m:Nat):List Int:=(List.range (2*m+1)).map λk:Nat=>-(m:Int)+((k:Nat):Int)
theorem z5K{m:Nat}{x:Int}:x∈z6y m ↔ x.natAbs<=m:=by
 unfold z6y;rw[_y];constructor
 ·rintro⟨k,hk,rfl⟩;rw[_bD]at hk;omega
 ·intro h;exact⟨(x+m).toNat,by rw[_bD];omega,by omega⟩
theorem zd6(m:Nat):(z6y m).Pairwise (· < ·):=by
 unfold z6y;rw[_b9];exact List.pairwise_lt_range.imp λ{a b} h=>by omega
noncomputable def box(n m:Nat):List (List Int):=uS (List.replicate n (z6y m))
theorem za3(n m:Nat):box (n+1) m=z1o (box n m) (z6y m):=by
 unfold box;rw[_cx,vY]
theorem z0H {n m:Nat}:(box n m).length<=(2*m+1) ^ n:=by
 have:=z4m (List.replicate n (z6y m)) (k:=2*m+1) λc hc=>by rw[_as hc];simp[z6y]
 simpa[box] using this
theorem z5U(n m:Nat):Up (box n m):=z5s _ λc hc=>by rw[_as hc];exact zd6 m
theorem xA{n m:Nat}{v:List Int}:v∈box n m ↔ v.length=n/\∀x∈v,x.natAbs<=m:=by
 unfold box;rw[z0S,_ch];constructor
 ·rintro⟨h1,h2⟩;refine⟨h1,λx hx=>?_⟩;obtain⟨i,hi,rfl⟩:=_Y.mp hx;have:=h2 i (by omega);rw[show v.getD i 0=v[i] by simp[_S,hi],show (List.replicate n (z6y m)).getD i []=z6y m by simp[_S,show i<n by omega]]at this;exact z5K.mp this
 ·rintro⟨h1,h2⟩;refine⟨h1,λi hi=>?_⟩;rw[show (List.replicate n (z6y m)).getD i []=z6y m by simp[_S,hi]];exact z5K.mpr (h2 _ (Pm.getD_mem (by omega)))
theorem z3R {n m:Nat} (hn:n<=4) (hm:m<=40000) (hs:(2*m+1) ^ n<=90000) (s:Sto):zJ [.int n,.int (-(m:Int)),.int m] s=.ok (.lst ((box n m).map rD)) s:=by
 have f1:yZ [some (.int n),some (.int (-(m:Int))),some (.int m),none,none] s=.ok (.nx [some (.int n),some (.int (-(m:Int))),some (.int m),some (.lst ((box 0 m).map rD)),none]) s:=by
  rw[yZ,yO,z1Q,zN,z1K,xk];simp[cap,box,uS]
 obtain⟨ρ',S',lp,a4,hρ,rfl⟩:=uD (all:=(List.range n).map λk:Nat=>D.int ((k:Nat):Int)) (body:=λx ρ s=>(xK 4 x ρ s).bind fun ρ' s'=>xb ρ' s') (λi ρ S'=>∃a4,ρ=[some (.int n),some (.int (-(m:Int))),some (.int m),some (.lst ((box i m).map rD)),a4]/\S'=s) ((List.range n).map λk:Nat=>D.int ((k:Nat):Int)) 0 (by
   intro i x hx ρ S' ⟨a4,hρ,hS⟩;subst hρ hS;rw[_aj];have hi:i<n:=by have:=(_b.mp hx).1;simpa using this
   have eg:((box i m).flatMap λa=>(List.range (2*m+1)).map λk=>rD (a++[-(m:Int)+((k:Nat):Int)]))=(box (i+1) m).map rD:=by
    rw[za3,z1o,List.map_flatMap,z6y];simp[_aO]
   have c:=z8m (fi:=xg (zd 3)) (mp:=[some 1,some 2,none,none]) (k1:=2) (k2:=3) (fi2:=z7F (za (zd 0) (za (eOp wT (zd 1) (eC (.int 1))) zi))) (fe:=eOp wT (zd 2) (vA (za (zd 3) zi))) (ρ:=[some (.int n),some (.int (-(m:Int))),some (.int m),some (.lst ((box i m).map rD)),some x]) (s:=S') rD (λ_ (k:Nat)=>D.int (-(m:Int)+((k:Nat):Int))) (box i m) (λ_=>List.range (2*m+1)) (λa k=>rD (a++[-(m:Int)+((k:Nat):Int)])) (ut (vr rfl)) (λa _=>by
     rw[zc7,zN,vr (d:=.int (-(m:Int))) rfl,Rb,zN,op2 (x:=.int m) (y:=.int 1) (vr rfl) rfl,kC,Rb,xk];simp only[Rb];rw[_g (by omega),show ((m:Int)+1 - -(m:Int)).toNat=2*m+1 by omega];rfl) (λa ha k _=>by
     have la:=(xA.mp ha).1;rw[op2 (x:=rD a) (y:=rD [-(m:Int)+(k:Int)]) (vr rfl) (by
      rw[z1K,zN,vr (d:=.int (-(m:Int)+(k:Int))) rfl,Rb,xk];simp[cap]),z5z,_g (by simp[cap];omega)];simp) (by
     rw[eg,_o];have h1:=z0H (n:=i+1) (m:=m);have h2:(2*m+1) ^ (i+1)<=(2*m+1) ^ n:=_aL (by omega) (by omega);have:(90000:Nat)<=cap:=by unfold cap;omega
     omega);rw[eg]at c;refine⟨[some (.int n),some (.int (-(m:Int))),some (.int m),some (.lst ((box (i+1) m).map rD)),some x],S',?_,some x,rfl,rfl⟩;rw[kS,Rb];show xb [some (.int n),some (.int (-(m:Int))),some (.int m),some (.lst ((box i m).map rD)),some x] S'=_;rw[xb,yO,c];rfl) [some (.int n),some (.int (-(m:Int))),some (.int m),some (.lst ((box 0 m).map rD)),none] s ⟨none,rfl,rfl⟩;rw[_aj,_o,List.length_range]at hρ;have f2:yX [some (.int n),some (.int (-(m:Int))),some (.int m),some (.lst ((box 0 m).map rD)),none] S'=.ok (.nx ρ') S':=by
  rw[yX,qC,uU (n:=n) (s1:=S') (by omega) (by rw[zN,vr (d:=.int n) rfl,Rb,xk];rfl),Rb];exact lp
 have key:∀(dn dz dm d0 d:D) (a4:Option D),yZ [some dn,some dz,some dm,none,none] S'=.ok (.nx [some dn,some dz,some dm,some d0,none]) S'->yX [some dn,some dz,some dm,some d0,none] S'=.ok (.nx [some dn,some dz,some dm,some d,a4]) S'->zJ [dn,dz,dm] S'=.ok d S':=λdn dz dm d0 d a4 h1 h2=>by
  have st:zK ["size","least","most","found","place"] [dn,dz,dm]=[some dn,some dz,some dm,none,none]:=rfl;simp only[zJ,Mof,vU,st,_s,_F,_N];rw[zD h1,zD h2];rfl
 rw[hρ]at f2;exact key _ _ _ _ _ _ f1 f2
noncomputable def wgt(x:List Int):Int:=maxL (x.map λi=>((i.natAbs:Nat):Int))
theorem z9v {x:List Int} (hl:x.length<=1000) (s:Sto):zX (xg (zd 0)) [none] (xK 0) xJ (ze zbF (za (zd 0) zi)) [some (rD x)] s=.ok (.lst (iL (x.map λi=>((i.natAbs:Nat):Int)))) s:=by
 have:=comp_map (ρ:=[some (rD x)]) (mp:=[none]) (fg:=xK 0) (fe:=ze zbF (za (zd 0) zi)) (s:=s) (fi:=xg (zd 0)) D.int (λi:Int=>D.int ((i.natAbs:Nat):Int)) (λi=>[some (.int i)]) x (jI (vr rfl)) (λi _=>rfl) (λi _=>by rw[xh (x:=.int i) (vr rfl)];simp only[zbF];congr 2;split<;>omega) (by simp[cap];omega);rw[this];simp[_aO]
theorem z9O{x:List Int}(h0:x≠[])(hl:x.length<=1000)(s:Sto):uf [rD x] s=.ok (.int (wgt x)) s:=by
 have key:∀(d:D)(ns:List Int),ns≠[]->zX (xg (zd 0)) [none] (xK 0) xJ (ze zbF (za (zd 0) zi)) [some d] s=.ok (.lst (iL ns)) s->uf [d] s=.ok (.int (maxL ns)) s:=λd ns hn h=>by
  have st:zK ["line"] [d]=[some d]:=rfl;simp only[uf,Mof,z3K,st,_s,_F,_N];rw[z1S,wS,xh h,zdA s hn];rfl
 exact key _ _ (by simpa using h0) (z9v hl s)
theorem z77{x:List Int}{i:Int}(h:i∈x):(i.natAbs:Int)<=wgt x:=maxL_ge _ (_y.mpr ⟨i,h,rfl⟩)
theorem z5I{x:List Int}(h:x≠[]):∃i∈x,wgt x=((i.natAbs:Nat):Int):=by
 have:=maxL_mem (show (x.map λi=>((i.natAbs:Nat):Int))≠[] by simpa using h);obtain⟨i,hi,e⟩:=_y.mp this;exact⟨i,hi,e.symm⟩
theorem zev{x:List Int}{m:Nat}(h:x≠[]):wgt x<=(m:Int) ↔ ∀i∈x,i.natAbs<=m:=by
 constructor
 ·intro q i hi;have:=z77 hi;omega
 ·intro q;obtain⟨i,hi,e⟩:=z5I h;have:=q i hi;omega
theorem zdZ{x:List Int}(h:x≠[]):0<=wgt x:=by
 obtain⟨i,_,e⟩:=z5I h;omega
def ent(k:Int)(ys:List D):Option (List D×Bool)->Prop
 | none=>ys=[] | some (zs,_)=>ys=zs/\ys≠[]
structure Grp(f:Int->List D)(xs:List D):Prop where get:∀k,∃o,yL k xs=some o/\ent k (f k) o
structure zdj(f:Int->List D)(xs:List D):Prop where get:∀k,(f k=[]/\yL k xs=some none)\/(f k≠[]/\yL k xs=some (some (f k,false)))
theorem zdj.grp{f:Int->List D}{xs:List D}(h:zdj f xs):Grp f xs:=⟨λk=>by
 rcases h.get k with⟨h1,h2⟩ | ⟨h1,h2⟩;·exact⟨_,h2,h1⟩
 ·exact⟨_,h2,rfl,h1⟩⟩
theorem vm {k j:Int} {d:D}:∀{xs:List D},yL j xs=some none->yL k (xs++[.tup [.int j,.lst [d]]])=(if j=k then some (some ([d],false)) else yL k xs)\/yL k xs=none
 | [],h=>by simp[yL] | x::xs,h=>by
  unfold yL at h;split at h;·cases ‹x::xs=[]›
  ·rename_i i ys t e;cases e;split at h;·simp at h
   ·rename_i ne;rcases vm (k:=k) (d:=d) h with q | q
    ·left;simp only[_X,yL];by_cases c:i=k
     ·rw[_g c,_g c];by_cases c2:j=k;·omega
      ·rw[_j c2]
     ·rw[_j c,_j c,q]
    ·by_cases c:i=k
     ·left;simp only[_X,yL];rw[_g c,_g c,_j (by omega)]
     ·right;simp only[yL];rw[_j c,q]
  ·rename_i i ys t e;cases e;split at h;·simp at h
   ·rename_i ne;rcases vm (k:=k) (d:=d) h with q | q
    ·left;simp only[_X,yL];by_cases c:i=k
     ·rw[_g c,_g c];by_cases c2:j=k;·omega
      ·rw[_j c2]
     ·rw[_j c,_j c,q]
    ·by_cases c:i=k
     ·left;simp only[_X,yL];rw[_g c,_g c,_j (by omega)]
     ·right;simp only[yL];rw[_j c,q]
  ·simp at h
theorem z0B {k j:Int} {d:D} {ys:List D}:∀{xs:List D},yL j xs=some (some (ys,false))->yL k (vI j d xs)=(if j=k then some (some (ys++[d],false)) else yL k xs)
 | [],h=>by simp[yL]at h | x::xs,h=>by
  unfold yL at h;split at h;·cases ‹x::xs=[]›
  ·rename_i i zs t e;cases e;split at h
   ·rename_i c;subst c;simp only[_D,_aX,and_true]at h;subst h;simp only[vI,_N,yL];split<;>rfl
   ·rename_i ne;have q:=z0B (k:=k) (d:=d) h;simp only[vI];rw[_j ne];simp only[yL,q];by_cases c:i=k;·rw[_g c,_j (by omega),_g c]
    ·rw[_j c,_j c]
  ·rename_i i zs t e;cases e;split at h;·simp at h
   ·rename_i ne;have q:=z0B (k:=k) (d:=d) h;simp only[vI,yL,q];by_cases c:i=k;·rw[_g c,_j (by omega),_g c]
    ·rw[_j c,_j c]
  ·simp at h
theorem z0n{j:Int}{d:D}:∀{xs:List D},(vI j d xs).length=xs.length
 | []=>rfl | x::xs=>by
  unfold vI;split
  ·rename_i i ys t e;cases e;split;·rfl
   ·simp[z0n (xs:=xs)]
  ·rename_i e;cases e;simp[z0n (xs:=xs)]
  ·rename_i h;cases h
theorem z37{k j:Int}{ys:List D}:∀{xs:List D},yL j xs=some (some (ys,false))->yL k (frzK j xs)=(if j=k then some (some (ys,true)) else yL k xs)
 | [],h=>by simp[yL]at h | x::xs,h=>by
  unfold yL at h;split at h;·cases ‹x::xs=[]›
  ·rename_i i zs t e;cases e;split at h
   ·rename_i c;subst c;simp only[_D,_aX,and_true]at h;subst h;simp only[frzK,_N,yL];split<;>rfl
   ·rename_i ne;have q:=z37 (k:=k) h;simp only[frzK];rw[_j ne];simp only[yL,q];by_cases c:i=k;·rw[_g c,_j (by omega),_g c]
    ·rw[_j c,_j c]
  ·rename_i i zs t e;cases e;split at h;·simp at h
   ·rename_i ne;have q:=z37 (k:=k) h;simp only[frzK,yL,q];by_cases c:i=k;·rw[_g c,_j (by omega),_g c]
    ·rw[_j c,_j c]
  ·simp at h
theorem zej{j:Int}{xs:List D}(h:xs≠[]):frzK j xs≠[]:=by cases xs with
 | nil=>exact absurd rfl h | cons x xs=>
  unfold frzK;split;·split<;>simp
  ·simp
  ·rename_i h;cases h
noncomputable def zex(f:Int->List D)(j:Int)(d:D):Int->List D:=λk=>if j=k then f k++[d] else f k
theorem zd9 {f:Int->List D} {xs:List D} (g:zdj f xs) {fo fk:FE} {i:Nat} {ρ:Ev} {s:Sto} {l:Nat} {j:Int} {d:D} (ho:fo ρ s=.ok (.dlo l) s) (hl:s[l]? = some xs) (hk:fk ρ s=.ok (.int j) s) (hd:ρ[i]? = some (some d)) (hf:d.flat=true) (hc:xs.length<cap) (hn:(f j).length<cap): ∃ys,z6v fo fk i ρ s=.ok .non (s.set l ys)/\zdj (zex f j d) ys/\ys.length<=xs.length+1/\ys≠[]:=by
 have nn:∀t,xs≠.non::t:=λt e=>by rcases g.get 0 with⟨_,h⟩ | ⟨_,h⟩<;>rw[e]at h<;>simp[yL]at h
 have un:z6v fo fk i ρ s=(match yL j xs with
    | some none=>if d.flat=true/\xs.length<cap then .ok .non (s.set l (xs++[.tup [.int j,.lst [d]]])) else .no | some (some (ys,false))=>if d.flat=true/\ys.length<cap/\xs.length<cap then .ok .non (s.set l (vI j d xs)) else .no | _=>.no):=by
  unfold z6v;rw[ho,Rb];simp only[hl];split
  ·rename_i t e;simp only[_D]at e;exact absurd e (nn _)
  ·rw[hk,Rb];simp only[hl,hd]<;>rfl
 rw[un];rcases g.get j with⟨h1,h2⟩ | ⟨h1,h2⟩
 ·rw[h2];simp only;rw[_g ⟨hf,hc⟩];refine⟨_,rfl,⟨λk=>?_⟩,by simp,by simp⟩;have q:=vm (k:=k) (d:=d) h2;unfold zex;by_cases c:j=k
  ·subst c;rw[_g rfl,h1];right;rcases q with q | q;·rw[q,_g rfl];exact⟨by simp,rfl⟩
   ·rw[h2]at q;cases q
  ·rw[_j c];rcases q with q | q;·rw[q,_j c];exact g.get k
   ·rcases g.get k with⟨_,z⟩ | ⟨_,z⟩<;>rw[z]at q<;>cases q
 ·rw[h2];simp only;rw[_g ⟨hf,hn,hc⟩];refine⟨_,rfl,⟨λk=>?_⟩,by rw[z0n];omega,λz=>?_⟩
  ·have q:=z0B (k:=k) (d:=d) h2;unfold zex;rw[q];by_cases c:j=k
   ·subst c;rw[_g rfl,_g rfl];right;exact⟨by simp,rfl⟩
   ·rw[_j c,_j c];exact g.get k
  ·have:=_ba List.length z;rw[z0n]at this;have e:xs=[]:=_cw this;rw[e]at h2;simp[yL]at h2
theorem zah{f:Int->List D}{xs:List D}(g:Grp f xs){fo fk:FE}{ρ:Ev}{s:Sto}{l:Nat}{j:Int}(ho:fo ρ s=.ok (.dlo l) s)(hl:s[l]? = some xs)(hk:fk ρ s=.ok (.int j) s)(ne:xs≠[]): ∃ys,z1F fo fk ρ s=.ok (.lst (f j)) (s.set l ys)/\Grp f ys/\ys≠[]:=by
 obtain⟨x,t,rfl⟩:∃x t,xs=x::t:=by cases xs with
  | nil=>exact absurd rfl ne | cons x t=>exact⟨x,t,rfl⟩
 have same:s.set l (x::t)=s:=by
  obtain⟨h1,h2⟩:=_b.mp hl;rw[<- h2];exact List.set_getElem_self h1
 unfold z1F;rw[ho,Rb];simp only;rw[hk,Rb];simp only[hl];obtain⟨o,h1,h2⟩:=g.get j;rw[h1];match o,h2 with
 | none,h2=>
  rw[show f j=[] from h2];exact⟨x::t,by rw[same],g,by simp⟩ | some (zs,true),h2=>
  rw[h2.1];exact⟨x::t,by rw[same],g,by simp⟩ | some (zs,false),h2=>
  rw[h2.1];refine⟨_,rfl,⟨λk=>?_⟩,zej (by simp)⟩;rw[z37 h1];by_cases c:j=k
  ·subst c;rw[_g rfl];exact⟨_,rfl,h2⟩
  ·rw[_j c];exact g.get k
end Pv
namespace Pt
open L2 Dd Pm Pg Pn Po Pr Pp
theorem zbX{α:Type}{fi:FI}{mp:List (Option Nat)}{fg:FG}{ft:FT}{fe:FE}{ρ:Ev}{s s1:Sto}(g f:α->D)(p:α->Bool)(ev:α->Ev)(l:List α) (hi:fi ρ s=.ok (l.map g,[]) s1)(hg:∀a∈l,fg (g a) (zW mp ρ) s1=.ok (ev a) s1)(ht:∀a∈l,ft (ev a) s1=.ok (p a) s1)(he:∀a∈l,p a=true->fe (ev a) s1=.ok (f a) s1)(hl:l.length<=cap): zX fi mp fg ft fe ρ s=.ok (.lst ((l.filter p).map f)) s1:=by
 rw[jJ,kq,hi,Rb];rw[vX g f p l [] (by
  intro a ha;simp only[hg a ha,ht a ha,Rb];cases hp:p a with
  | true=>simp[he a ha hp] | false=>simp) (by simpa using hl)];rfl
end Pt
namespace Pv
open L2 Dd Pm Pg Pn Po Pr Pp Pt
theorem jT{α:Type}{G:List (Nat×List D)}{all:List D}{s:Sto}{body:D->Sto->R (Option D)}(og:okG G all s)(g f:α->D)(p:α->Bool):∀(l:List α)(acc:List D),(∀a∈l,body (g a) s=.ok (if p a=true then some (f a) else none) s)->acc.length+l.length<=cap->xM G all body (l.map g) acc s=.ok (acc++(l.filter p).map f) s
 | [],acc,_,_=>by simp[xM,og] | x::xs,acc,hb,hl=>by
  rw[_l,xM,_g og,hb x (by simp)];cases hp:p x with
  | true=>
   have ih:=jT (all:=all) og g f p xs (acc++[f x]) (λy hy=>hb y (by simp[hy])) (by simp at hl ⊢;omega);have hc:acc.length<cap:=by simp at hl;omega
   simp[hc,ih,hp] | false=>
   have ih:=jT (all:=all) og g f p xs acc (λy hy=>hb y (by simp[hy])) (by simp at hl ⊢;omega);simp[ih,hp]
theorem z8K{α:Type}{G:List (Nat×List D)}{fi:FI}{mp:List (Option Nat)}{fg:FG}{ft:FT}{fe:FE}{ρ:Ev}{s:Sto}(g f:α->D)(p:α->Bool)(ev:α->Ev)(l:List α) (hi:fi ρ s=.ok (l.map g,G) s)(og:okG G (l.map g) s)(hg:∀a∈l,fg (g a) (zW mp ρ) s=.ok (ev a) s)(ht:∀a∈l,ft (ev a) s=.ok (p a) s)(he:∀a∈l,p a=true->fe (ev a) s=.ok (f a) s)(hl:l.length<=cap): zX fi mp fg ft fe ρ s=.ok (.lst ((l.filter p).map f)) s:=by
 rw[jJ,kq,hi,Rb];rw[jT og g f p l [] (by
  intro a ha;simp only[hg a ha,ht a ha,Rb];cases hp:p a with
  | true=>simp[he a ha hp] | false=>simp) (by simpa using hl)];rfl
noncomputable def z5W(v:List Int)(x:List Int):Int:=dot x (v.take (v.length / 2))
noncomputable def z9J(v:List Int)(x:List Int):Int:=dot x (v.drop (v.length / 2))
noncomputable def z7f(v:List Int)(P:List (List Int)):Int->List D:=λk=>(P.filter λx=>decide (z5W v x=k)).map rD
noncomputable def fnd(v:List Int)(F G:List (List Int)):List (List Int):=G.flatMap λg=>(F.filter λx=>decide (z5W v x=-z9J v g)).map λx=>x++g
noncomputable def z9e(v x:List Int):Bool:=decide (dot x v=0)&&decide (0<wgt x)
noncomputable def rel(v:List Int)(m:Nat):List (List Int):=(box v.length m).filter (z9e v)
noncomputable def zbL(v:List Int)(m:Nat):List (List Int):=(box v.length m).filter λx=>decide (dot x v=0)
theorem za7(v:List Int)(P:List (List Int))(x:List Int):zex (z7f v P) (z5W v x) (rD x)=z7f v (P++[x]):=by
 funext k;unfold zex z7f;rw[List.filter_append,_cG];by_cases c:z5W v x=k;·rw[_g c,List.filter_cons_of_pos (by simpa using c)];rfl
 ·rw[_j c,List.filter_cons_of_neg (by simpa using c)];simp
theorem z1U{v x g:List Int}(hx:x.length=v.length / 2):dot (x++g) v=z5W v x+z9J v g:=by
 conv=>lhs;rw[<- _aD (v.length / 2) v]
 exact z1O (by rw[hx,_ae];omega)
theorem z7M{v:List Int}{m:Nat}{z:List Int}:z∈fnd v (box (v.length / 2) m) (box (v.length-v.length / 2) m) ↔ z∈zbL v m:=by
 simp only[fnd,zbL,_ds,_y,_K,_m];constructor
 ·rintro⟨g,hg,x,⟨hx,e⟩,rfl⟩;obtain⟨g1,g2⟩:=xA.mp hg;obtain⟨x1,x2⟩:=xA.mp hx;refine⟨xA.mpr ⟨by rw[_H];omega,λi hi=>?_⟩,?_⟩
  ·rcases _E.mp hi with hi | hi;·exact x2 i hi
   ·exact g2 i hi
  ·rw[z1U x1];omega
 ·rintro⟨hz,e⟩;obtain⟨z1,z2⟩:=xA.mp hz;have l1:(z.take (v.length / 2)).length=v.length / 2:=by rw[_ae];omega
  refine⟨z.drop (v.length / 2),xA.mpr ⟨by rw[_bp];omega,λi hi=>z2 i (_bH hi)⟩,z.take (v.length / 2),⟨xA.mpr ⟨l1,λi hi=>z2 i (_W hi)⟩,?_⟩,_aD _ _⟩;rw[<- _aD (v.length / 2) z,z1U l1]at e;omega
theorem z8J{v:List Int}{m:Nat}:(fnd v (box (v.length / 2) m) (box (v.length-v.length / 2) m)).Nodup:=by
 unfold fnd;refine List.pairwise_flatMap.mpr ⟨λg hg=>?_,?_⟩
 ·rw[_b9];exact ((z5U _ _).nodup.filter _).imp λ{a b} h e=>h (List.append_cancel_right e)
 ·refine List.Pairwise.imp_of_mem (λ{a b} ha hb ne x hx y hy=>?_) (z5U (v.length-v.length / 2) m).nodup;obtain⟨p,hp,rfl⟩:=_y.mp hx;obtain⟨q,hq,rfl⟩:=_y.mp hy;have l1:=(xA.mp (_K.mp hp).1).1;have l2:=(xA.mp (_K.mp hq).1).1;exact λe=>ne (List.append_inj e (by omega)).2
theorem z3e{v:List Int}{m:Nat}:(fnd v (box (v.length / 2) m) (box (v.length-v.length / 2) m)).Perm (zbL v m):=(List.perm_ext_iff_of_nodup z8J ((z5U _ _).nodup.filter _)).mpr λz=>z7M
theorem zfb(v:List Int)(m:Nat):Up (rel v m):=(z5U _ _).filter _
theorem zbM(v:List Int)(m:Nat):rel v m=(zbL v m).filter λx=>decide (0<wgt x):=by
 unfold rel zbL;rw[List.filter_filter];refine List.filter_congr λx _=>?_;unfold z9e;rw[Bool.and_comm]
theorem zab{v:List Int}{m:Nat}:zV lexN ((fnd v (box (v.length / 2) m) (box (v.length-v.length / 2) m)).filter λx=>decide (0<wgt x))=rel v m:=by
 refine z2R z2o ?_ ((zfb v m).imp λ{a b} h=>?_)
 ·rw[zbM];exact (z3e.filter _).symm
 ·have ne:a≠b:=λe=>by rw[e,xX]at h;cases h
  rw[qI ne,h];rfl
structure SmL(n:Nat)(v:List Int):Prop where
 len:v.length=n
 lo:2<=n
 hi:n<=4
 bd:∀x∈v,0<=x/\x<=1000
theorem SmL.big{n:Nat}{v:List Int}(h:SmL n v):∀x∈v,x.natAbs<2 ^ 10:=λx hx=>by have:=h.bd x hx;omega
noncomputable abbrev W7(a0 a1 a2 a3 a4 a5 a6:Option D):Ev:=[a0,a1,a2,a3,a4,a5,a6]
theorem z8y{n m:Nat}{x:List Int}(hx:x∈box n m)(hm:m<=40000):∀i∈x,i.natAbs<2 ^ 16:=λi hi=>by have:=(xA.mp hx).2 i hi;omega
section
variable {n m:Nat}{v:List Int}(L:SmL n v)(hm:m<=40000)(h1:(2*m+1) ^ (v.length / 2)<=90000)(h2:(2*m+1) ^ (v.length-v.length / 2)<=90000)(hf:(zbL v m).length<=90000)
include L hm h1 in
theorem zgz (dl dm:D) (hl:dl=rD v) (s:Sto):∃xs,∃a4,wK [] ((box (v.length / 2) m).map rD) (λd ρ s=>(xK 4 d ρ s).bind fun ρ' s'=>zU ρ' s') ((box (v.length / 2) m).map rD) (W7 (some dl) (some dm) (some (.int ((v.length / 2:Nat):Int))) (some (.dlo s.length)) none none none) (s++[[]]) = .ok (.nx (W7 (some dl) (some dm) (some (.int ((v.length / 2:Nat):Int))) (some (.dlo s.length)) a4 none none)) (s++[xs])/\zdj (z7f v (box (v.length / 2) m)) xs/\xs≠[]:=by
 have bl:=z0H (n:=v.length / 2) (m:=m);have capn:(90000:Nat)<cap:=by unfold cap;omega
 have mid:v.length / 2<=2:=by have:=L.len;have:=L.hi;omega
 obtain⟨ρ',S',lp,a4,xs,hρ,hS,g,xl,xn⟩:=uD (all:=(box (v.length / 2) m).map rD) (body:=λd ρ s=>(xK 4 d ρ s).bind fun ρ' s'=>zU ρ' s') (λi ρ S=>∃a4 xs,ρ=W7 (some dl) (some dm) (some (.int ((v.length / 2:Nat):Int))) (some (.dlo s.length)) a4 none none/\S=s++[xs]/\zdj (z7f v ((box (v.length / 2) m).take i)) xs/\xs.length<=i/\(0<i->xs≠[])) ((box (v.length / 2) m).map rD) 0 (by
   intro i d hd ρ S ⟨a4,xs,hρ,hS,g,xl,xn⟩;subst hρ hS;rw[_aj]at g xl xn ⊢;rw[_R,_A]at hd;obtain⟨x,ex,rfl⟩:=hd;have xm:x∈box (v.length / 2) m:=_d ex;have il:i<(box (v.length / 2) m).length:=(_b.mp ex).1;have tk:(box (v.length / 2) m).take (i+1)=(box (v.length / 2) m).take i++[x]:=by rw[_c1,ex];rfl
   have xle:x.length<=2:=by rw[(xA.mp xm).1];exact mid
   have tg:zE [rD x,rD (v.take (v.length / 2))] (s++[xs])=.ok (.int (z5W v x)) (s++[xs]):=ub (m:=16) (k:=10) _ (z8y xm hm) (λy hy=>L.big y (_W hy)) (by omega) (by omega) (by omega);have sl:dSl dl none (some (((v.length / 2:Nat):Int))) (s++[xs])=.ok (rD (v.take (v.length / 2))) (s++[xs]):=by rw[hl,z2r];simp[rD,List.map_take]
   have at1:(s++[xs])[s.length]? = some xs:=by simp
   have key:∀e:D,∀k,zE [e,rD (v.take (v.length / 2))] (s++[xs])=.ok (.int k) (s++[xs])->ze zE (za (zd 4) (za (eSl (zd 0) yo (vw (zd 2))) zi)) (W7 (some dl) (some dm) (some (.int ((v.length / 2:Nat):Int))) (some (.dlo s.length)) (some e) none none) (s++[xs])=.ok (.int k) (s++[xs]):=λe k q=>by
    rw[call2 (x:=e) (y:=rD (v.take (v.length / 2))) (vr rfl) (by rw[z4o,vr (d:=dl) rfl,Rb,wH,Rb,ql,vr (d:=.int ((v.length / 2:Nat):Int)) rfl,Rb];exact sl)];exact q
   have gl:(z7f v ((box (v.length / 2) m).take i) (z5W v x)).length<cap:=by
    unfold z7f;rw[_o];have:=_bj (λx'=>decide (z5W v x'=z5W v x)) ((box (v.length / 2) m).take i);rw[_ae]at this;omega
   obtain⟨ys,e,g',yl,yn⟩:=zd9 g (fo:=zd 3) (fk:=ze zE (za (zd 4) (za (eSl (zd 0) yo (vw (zd 2))) zi))) (i:=4) (ρ:=W7 (some dl) (some dm) (some (.int ((v.length / 2:Nat):Int))) (some (.dlo s.length)) (some (rD x)) none none) (s:=s++[xs]) (l:=s.length) (j:=z5W v x) (d:=rD x) (vr rfl) at1 (key _ _ tg) rfl (by simp[D.flat,wZ]) (by omega) gl;refine⟨_,_,?_,some (rD x),ys,rfl,rfl,?_,by omega,λ_=>yn⟩
   ·rw[kS,Rb];show zU (W7 (some dl) (some dm) (some (.int ((v.length / 2:Nat):Int))) (some (.dlo s.length)) (some (rD x)) none none) (s++[xs])=_;rw[zU,uB,e,Rb,z7h]
   ·rw[tk,<- za7];exact g') (W7 (some dl) (some dm) (some (.int ((v.length / 2:Nat):Int))) (some (.dlo s.length)) none none none) (s++[[]]) ⟨none,[],rfl,rfl,⟨λk=>.inl ⟨by simp[z7f],rfl⟩⟩,by simp,λh=>absurd h (by omega)⟩;rw[_aj,_o]at g xl xn;rw[_aA (_f _)]at g;refine⟨xs,a4,by rw[lp,hρ,hS],g,xn ?_⟩;have:List.replicate (v.length / 2) (0:Int)∈box (v.length / 2) m:=xA.mpr ⟨by simp,λi hi=>by rw[_as hi];omega⟩;exact List.length_pos_of_mem this
end
theorem z5S(v:List Int)(F G:List (List Int))(g:List Int):fnd v F (G++[g])=fnd v F G++(F.filter λx=>decide (z5W v x=-z9J v g)).map λx=>x++g:=by
 unfold fnd;rw[List.flatMap_append];simp
theorem z4D(v:List Int)(F G:List (List Int))(i:Nat):(fnd v F (G.take i)).length<=(fnd v F G).length:=by
 conv=>rhs;rw[<- _aD i G]
 unfold fnd;rw[List.flatMap_append,_H];omega
theorem zbw{s:Sto}{xs ys zs:List D}:(s++[xs]++[zs]).set s.length ys=s++[ys]++[zs]:=by
 rw[_T,_T,List.set_append_right _ _ (_f _)];simp
section
variable {n m:Nat}{v:List Int}(L:SmL n v)(hm:m<=40000)(h1:(2*m+1) ^ (v.length / 2)<=90000)(h2:(2*m+1) ^ (v.length-v.length / 2)<=90000)(hf:(zbL v m).length<=90000)
include L hm h1 hf in
theorem zac (dl dm:D) (hl:dl=rD v) (s:Sto) {xs:List D} (g0:Grp (z7f v (box (v.length / 2) m)) xs) (x0:xs≠[]) (a4:Option D):∃ys a6,wK [] ((box (v.length-v.length / 2) m).map rD) (λd ρ s=>(xK 6 d ρ s).bind fun ρ' s'=>zT ρ' s') ((box (v.length-v.length / 2) m).map rD) (W7 (some dl) (some dm) (some (.int ((v.length / 2:Nat):Int))) (some (.dlo s.length)) a4 (some (.loc (s.length+1))) none) (s++[xs]++[[]]) = .ok (.nx (W7 (some dl) (some dm) (some (.int ((v.length / 2:Nat):Int))) (some (.dlo s.length)) a4 (some (.loc (s.length+1))) a6)) (s++[ys]++[(fnd v (box (v.length / 2) m) (box (v.length-v.length / 2) m)).map rD]):=by
 have bl:=z0H (n:=v.length / 2) (m:=m);have capn:(90000:Nat)<cap:=by unfold cap;omega
 have vl:=L.len;have v2:=L.lo;have v4:=L.hi;have ft:(fnd v (box (v.length / 2) m) (box (v.length-v.length / 2) m)).length<=90000:=by rw[z3e.length_eq];exact hf
 obtain⟨ρ',S',lp,a6,ys,hρ,hS,g,yn⟩:=uD (all:=(box (v.length-v.length / 2) m).map rD) (body:=λd ρ s=>(xK 6 d ρ s).bind fun ρ' s'=>zT ρ' s') (λi ρ S=>∃a6 ys,ρ=W7 (some dl) (some dm) (some (.int ((v.length / 2:Nat):Int))) (some (.dlo s.length)) a4 (some (.loc (s.length+1))) a6/\S=s++[ys]++[(fnd v (box (v.length / 2) m) ((box (v.length-v.length / 2) m).take i)).map rD]/\Grp (z7f v (box (v.length / 2) m)) ys/\ys≠[]) ((box (v.length-v.length / 2) m).map rD) 0 (by
   intro i d hd ρ S ⟨a6,ys,hρ,hS,g,yn⟩;subst hρ hS;rw[_aj];rw[_R,_A]at hd;obtain⟨x,ex,rfl⟩:=hd;have xm:x∈box (v.length-v.length / 2) m:=_d ex;have tk:(box (v.length-v.length / 2) m).take (i+1)=(box (v.length-v.length / 2) m).take i++[x]:=by rw[_c1,ex];rfl
   have xle:x.length<=4:=by rw[(xA.mp xm).1];omega
   have fl:=z4D v (box (v.length / 2) m) (box (v.length-v.length / 2) m) (i+1);rw[tk,z5S,_H,_o]at fl;rw[tk,z5S];generalize hA:fnd v (box (v.length / 2) m) ((box (v.length-v.length / 2) m).take i)=A at fl;have sl:∀S:Sto,dSl dl (some (((v.length / 2:Nat):Int))) none S=.ok (rD (v.drop (v.length / 2))) S:=λS=>by rw[hl,z8H];simp[rD,List.map_drop]
   have tg:zE [rD x,rD (v.drop (v.length / 2))] (s++[ys]++[A.map rD])=.ok (.int (z9J v x)) (s++[ys]++[A.map rD]):=ub (m:=16) (k:=10) _ (z8y xm hm) (λy hy=>L.big y (_bH hy)) (by omega) (by omega) (by omega);have key:∀e:D,∀k,zE [e,rD (v.drop (v.length / 2))] (s++[ys]++[A.map rD])=.ok (.int k) (s++[ys]++[A.map rD])->z5c (ze zE (za (zd 6) (za (eSl (zd 0) (vw (zd 2)) yo) zi))) (W7 (some dl) (some dm) (some (.int ((v.length / 2:Nat):Int))) (some (.dlo s.length)) a4 (some (.loc (s.length+1))) (some e)) (s++[ys]++[A.map rD])=.ok (.int (-k)) (s++[ys]++[A.map rD]):=λe k q=>by
    rw[z3A,call2 (x:=e) (y:=rD (v.drop (v.length / 2))) (vr rfl) (by rw[z4o,vr (d:=dl) rfl,Rb,ql,vr (d:=.int ((v.length / 2:Nat):Int)) rfl,Rb];simp only[Rb];rw[wH,Rb];exact sl _),q];rfl
   have at1:(s++[ys]++[A.map rD])[s.length]? = some ys:=by rw[_T,_Q (_f _)];simp
   obtain⟨zs,e,g',zn⟩:=zah g (fo:=zd 3) (fk:=z5c (ze zE (za (zd 6) (za (eSl (zd 0) (vw (zd 2)) yo) zi)))) (ρ:=W7 (some dl) (some dm) (some (.int ((v.length / 2:Nat):Int))) (some (.dlo s.length)) a4 (some (.loc (s.length+1))) (some (rD x))) (s:=s++[ys]++[A.map rD]) (l:=s.length) (j:=-z9J v x) (vr rfl) at1 (key _ _ tg) yn;rw[zbw]at e;have gf:z7f v (box (v.length / 2) m) (-z9J v x)=((box (v.length / 2) m).filter λy=>decide (z5W v y=-z9J v x)).map rD:=rfl;have gm:∀y∈(box (v.length / 2) m).filter (λy=>decide (z5W v y=-z9J v x)),y.length<=4:=λy hy=>by rw[(xA.mp (_K.mp hy).1).1];omega
   rw[gf]at e;generalize (box (v.length / 2) m).filter (λy=>decide (z5W v y=-z9J v x))=B at e fl gm;have c:=zbX (s:=s++[ys]++[A.map rD]) (s1:=s++[zs]++[A.map rD]) (ρ:=W7 (some dl) (some dm) (some (.int ((v.length / 2:Nat):Int))) (some (.dlo s.length)) a4 (some (.loc (s.length+1))) (some (rD x))) (fi:=xg (z1F (zd 3) (z5c (ze zE (za (zd 6) (za (eSl (zd 0) (vw (zd 2)) yo) zi)))))) (mp:=[some 6,none]) (fg:=xK 1) (ft:=xJ) (fe:=eOp wT (zd 1) (zd 0)) rD (λy=>rD (y++x)) (λ_=>true) (λy=>[some (rD x),some (rD y)]) B (by rw[z2x,e,Rb]) (λy _=>rfl) (λy _=>rfl) (λy hy _=>by
     have:=gm y hy;rw[op2 (x:=rD y) (y:=rD x) (vr rfl) (vr rfl),z5z,_g (by simp[cap];omega),<- _cG]) (by omega);rw[show B.filter (λ_=>true)=B from _cL.mpr (by simp)]at c;have at2:(s++[zs]++[A.map rD])[s.length+1]? = some (A.map rD):=by rw[_Q (by simp)];simp
   refine⟨W7 (some dl) (some dm) (some (.int ((v.length / 2:Nat):Int))) (some (.dlo s.length)) a4 (some (.loc (s.length+1))) (some (rD x)),_,?_,some (rD x),zs,rfl,rfl,g',zn⟩;rw[kS,Rb];show zT (W7 (some dl) (some dm) (some (.int ((v.length / 2:Nat):Int))) (some (.dlo s.length)) a4 (some (.loc (s.length+1))) (some (rD x))) (s++[ys]++[A.map rD])=_;have fB:D.flat.flats (B.map λy=>rD (y++x))=true:=by
    have:=z0j (B.map λy=>y++x);rwa [_aI]at this
   have au:∀(f:FE) (ρ:Ev) (S S1:Sto) (l:Nat) (as bs:List D),ρ[5]? = some (some (.loc l))->f ρ S=.ok (.lst bs) S1->S1[l]? = some as->D.flat.flats bs=true->as.length+bs.length<=cap->z8g 5 f ρ S=.ok (.nx (ρ.set 5 (some (.loc l)))) (S1.set l (as++bs)):=λf ρ S S1 l as bs e1 e2 e3 e4 e5=>by
    unfold z8g;simp only[e1,e2,Rb,e3];rw[_g ⟨e4,e5⟩]
   rw[zT,au _ _ _ _ (s.length+1) _ _ rfl c at2 fB (by simp only[_o];omega)];rw[show s.length+1=(s++[zs]).length by simp,z7h,_cG,_aI];rfl) (W7 (some dl) (some dm) (some (.int ((v.length / 2:Nat):Int))) (some (.dlo s.length)) a4 (some (.loc (s.length+1))) none) (s++[xs]++[[]]) ⟨none,xs,rfl,by simp[fnd],g0,x0⟩;rw[_aj,_o,_aA (_f _)]at hS;exact⟨ys,a6,by rw[lp,hρ,hS]⟩
include L hm h1 h2 hf in
theorem z4R (s:Sto):zt [rD v,.int m] s=.ok (.lst ((rel v m).map rD)) s:=by
 have vl:=L.len;have v2:=L.lo;have v4:=L.hi;have capn:(90000:Nat)<cap:=by unfold cap;omega
 have key:∀(dl dm:D) (F G:List D) (R0:List (List Int)) (xs ys:List D) (a4 a6:Option D),xL [dl] s=.ok (.int v.length) s->xL [dl] (s++[xs]++[[]])=.ok (.int v.length) (s++[xs]++[[]])->(∃k:Int,dm=.int k/\zJ [.int ((v.length / 2:Nat):Int),.int (-k),dm] (s++[[]])=.ok (.lst F) (s++[[]])/\zJ [.int ((v.length-v.length / 2:Nat):Int),.int (-k),dm] (s++[xs]++[[]])=.ok (.lst G) (s++[xs]++[[]]))-> wK [] F (λd ρ s=>(xK 4 d ρ s).bind fun ρ' s'=>zU ρ' s') F (W7 (some dl) (some dm) (some (.int ((v.length / 2:Nat):Int))) (some (.dlo s.length)) none none none) (s++[[]])=.ok (.nx (W7 (some dl) (some dm) (some (.int ((v.length / 2:Nat):Int))) (some (.dlo s.length)) a4 none none)) (s++[xs])-> wK [] G (λd ρ s=>(xK 6 d ρ s).bind fun ρ' s'=>zT ρ' s') G (W7 (some dl) (some dm) (some (.int ((v.length / 2:Nat):Int))) (some (.dlo s.length)) a4 (some (.loc (s.length+1))) none) (s++[xs]++[[]])=.ok (.nx (W7 (some dl) (some dm) (some (.int ((v.length / 2:Nat):Int))) (some (.dlo s.length)) a4 (some (.loc (s.length+1))) a6)) (s++[ys]++[R0.map rD])-> R0.length<=90000->(∀x∈R0,x≠[]/\x.length<=4)->zt [dl,dm] s=.ok (.lst ((zV lexN (R0.filter λx=>decide (0<wgt x))).map rD)) s:=λdl dm F G R0 xs ys a4 a6 e1 e2 e3 e4 e5 e6 e7=>by
  obtain⟨k,rfl,t1,t2⟩:=e3;have st:zK ["lot","most","middle","by_sum","first","found","second"] [dl,.int k]=W7 (some dl) (some (.int k)) none none none none none:=rfl;have f1:xD (W7 (some dl) (some (.int k)) none none none none none) s=.ok (.nx (W7 (some dl) (some (.int k)) (some (.int ((v.length / 2:Nat):Int))) none none none none)) s:=by
   rw[xD,yO,op2 (x:=.int v.length) (y:=.int 2) (by rw[xh (x:=dl) (vr rfl)];exact e1) rfl];rfl
  have f2:wR (W7 (some dl) (some (.int k)) (some (.int ((v.length / 2:Nat):Int))) none none none none) s=.ok (.nx (W7 (some dl) (some (.int k)) (some (.int ((v.length / 2:Nat):Int))) (some (.dlo s.length)) none none none)) (s++[[]]):=rfl;have f3:xE (W7 (some dl) (some (.int k)) (some (.int ((v.length / 2:Nat):Int))) (some (.dlo s.length)) none none none) (s++[[]])=.ok (.nx (W7 (some dl) (some (.int k)) (some (.int ((v.length / 2:Nat):Int))) (some (.dlo s.length)) a4 none none)) (s++[xs]):=by
   rw[xE,qC,ut (xs:=F) (by rw[z2Y (x:=.int ((v.length / 2:Nat):Int)) (y:=.int (-k)) (z:=.int k) (vr rfl) (by rw[z3A,vr (d:=.int k) rfl,Rb]) (vr rfl)];exact t1),Rb];exact e4
  have f5:xC (W7 (some dl) (some (.int k)) (some (.int ((v.length / 2:Nat):Int))) (some (.dlo s.length)) a4 none none) (s++[xs])=.ok (.nx (W7 (some dl) (some (.int k)) (some (.int ((v.length / 2:Nat):Int))) (some (.dlo s.length)) a4 (some (.loc (s.length+1))) none)) (s++[xs]++[[]]):=by
   rw[xC,yO,zbk,xk,Rb,_g ⟨by simp,rfl⟩,Rb,_H];rfl
  have f6:xB (W7 (some dl) (some (.int k)) (some (.int ((v.length / 2:Nat):Int))) (some (.dlo s.length)) a4 (some (.loc (s.length+1))) none) (s++[xs]++[[]])=.ok (.nx (W7 (some dl) (some (.int k)) (some (.int ((v.length / 2:Nat):Int))) (some (.dlo s.length)) a4 (some (.loc (s.length+1))) a6)) (s++[ys]++[R0.map rD]):=by
   rw[xB,qC,ut (xs:=G) (by rw[z2Y (x:=.int ((v.length-v.length / 2:Nat):Int)) (y:=.int (-k)) (z:=.int k) (by rw[op2 (x:=.int v.length) (y:=.int ((v.length / 2:Nat):Int)) (by rw[xh (x:=dl) (vr rfl)];exact e2) (vr rfl),zaE,show ((v.length:Int)-((v.length / 2:Nat):Int))=((v.length-v.length / 2:Nat):Int) by omega]) (by rw[z3A,vr (d:=.int k) rfl,Rb]) (vr rfl)];exact t2),Rb];exact e5
  have at2:(s++[ys]++[R0.map rD])[s.length+1]? = some (R0.map rD):=by rw[_Q (by simp)];simp
  generalize hS:s++[ys]++[R0.map rD]=S at f6 at2;have tk:S.take s.length=s:=by rw[<- hS,_T,List.take_left'];rfl
  have c:=z8K (G:=[(s.length+1,R0.map rD)]) (fi:=xg (zd 5)) (mp:=[none]) (fg:=xK 0) (ft:=tOf (eOp dGt (ze uf (za (zd 0) zi)) (eC (.int 0)))) (fe:=zd 0) (ρ:=W7 (some dl) (some (.int k)) (some (.int ((v.length / 2:Nat):Int))) (some (.dlo s.length)) a4 (some (.loc (s.length+1))) a6) (s:=S) rD rD (λx=>decide (0<wgt x)) (λx=>[some (rD x)]) R0 (by rw[z2x,vr (d:=.loc (s.length+1)) rfl,Rb];simp only[at2]) (λp hp=>by rw[_ao.mp hp];exact at2) (λx _=>rfl) (λx hx=>vL (by rw[op2 (x:=.int (wgt x)) (y:=.int 0) (by rw[xh (x:=rD x) (vr rfl)];exact z9O (e7 x hx).1 (by have:=(e7 x hx).2;omega) S) rfl,z9r])) (λx _ _=>vr rfl) (by omega);have ne:∀x∈R0.filter (λx=>decide (0<wgt x)),x≠[]:=λx hx=>(e7 x (_K.mp hx).1).1;generalize R0.filter (λx=>decide (0<wgt x))=T at c ne;have f8:xF (W7 (some dl) (some (.int k)) (some (.int ((v.length / 2:Nat):Int))) (some (.dlo s.length)) a4 (some (.loc (s.length+1))) a6) S=.ok (.rt (.lst ((zV lexN T).map rD))) S:=by
   rw[xF,wS,xh c];have tu:z3k (T.map rD)=some T:=z4k T;simp only[z5O,z47,Dd.listOf,tu];rw[_g (_ag.mpr λx hx=>by have:=ne x hx;cases x<;>simp_all)];rfl
  simp only[zt,z2H,Mof,vt,st,_s,_F,_N];rw[zD f1,zD f2,zD f3,zD f5,zD f6,f8];simp only[];rw[ke (by simp only[D.flat];exact z0j _),tk]
 obtain⟨xs,a4,l1,g,xn⟩:=zgz L hm h1 (rD v) (.int m) rfl s;obtain⟨ys,a6,l2⟩:=zac L hm h1 hf (rD v) (.int m) rfl s g.grp xn a4;have gl:∀S:Sto,xL [rD v] S=.ok (.int v.length) S:=λS=>by simp[xL,ye]
 have r:=key (rD v) (.int m) _ _ _ xs ys a4 a6 (gl _) (gl _) ⟨_,rfl,z3R (by omega) hm h1 _,z3R (by omega) hm h2 _⟩ l1 l2 (by rw[z3e.length_eq];exact hf) λx hx=>by
  have:=(xA.mp (_K.mp (z7M.mp hx)).1).1;exact⟨λz=>by rw[z]at this;simp at this;omega,by omega⟩
 rw[r,zab]
end
end Pv
namespace Pp
open L2 Dd Pm Pg Pn
end Pp
namespace Pp
open Pm Pg Dd
theorem z8z : ∀(M : Nat) (f : Nat → Nat), (∀i ≤ M, f i < M) → ∃i j, i < j ∧ j ≤ M ∧ f i = f j
 | 0, f, h => absurd (h 0 (_f _)) (Nat.not_lt_zero _) | M + 1, f, h => by
  by_cases hv : ∃i, i ≤ M ∧ f i = f (M + 1)
  ·obtain⟨i, hi, e⟩ := hv;exact⟨i, M + 1, by omega, _f _, e⟩
  ·have hn : ∀i ≤ M, f i ≠ f (M + 1) := λi hi e => hv ⟨i, hi, e⟩;have hl := h (M + 1) (_f _);obtain⟨i, j, hij, hj, e⟩ := z8z M (λi => if f i = M then f (M + 1) else f i) (λi hi => by
    have h1 := h i (by omega);have h2 := hn i hi;show (if f i = M then f (M + 1) else f i) < M;split <;> omega);refine⟨i, j, hij, by omega, ?_⟩;have h1 := hn i (by omega);have h2 := hn j hj;split at e <;> split at e <;> omega
end Pp
namespace Pv
open L2 (maxL minL maxL_ge maxL_mem minL_le minL_mem)
open Pm Pp Pt
def qm(v:List Int)(w:Nat):Prop:=∃x:List Int,x.length=v.length/\(∀i∈x,i.natAbs<=w)/\dot x v=0/\0<wgt x
theorem ur{x:List Int}{i:Int}(h:i∈x)(h0:i≠0):0<wgt x:=by have:=z77 h;omega
theorem z0L{v:List Int}{m:Nat}{x:List Int}:x∈rel v m ↔ x.length=v.length/\(∀i∈x,i.natAbs<=m)/\dot x v=0/\0<wgt x:=by
 unfold rel z9e;rw[_K,xA];simp[and_assoc]
theorem zhF{a b:Int}(ha:0<=a/\a<=1000)(hb:0<=b/\b<=1000)(hp:0<a\/0<b):qm [a,b] 1000:=by
 refine⟨[b,-a],rfl,λi hi=>?_,?_,?_⟩
 ·simp only[_h,_Z,_bs]at hi;rcases hi with rfl | rfl<;>omega
 ·simp only[dot_cons,z4Z];rw[Int.mul_comm b a,Int.neg_mul];omega
 ·rcases hp with hp | hp;·exact ur (i:=-a) (by simp) (by omega)
  ·exact ur (i:=b) (by simp) (by omega)
theorem zhl{a b c:Nat}(hc:1<=c)(hc2:c<=1000)(ha:a<=c)(hb:b<=c):∃p q r:Int,p.natAbs<=44/\q.natAbs<=44/\r.natAbs<=44/\p*a+q*b+r*c=0/\(p≠0\/q≠0\/r≠0):=by
 have bd:∀t,t<2025->(t / 45)*a+(t % 45)*b<=88*c:=λt ht=>by
  have h1:t / 45<=44:=by omega
  have h2:t % 45<=44:=by omega
  have e1:(t / 45)*a<=44*c:=_br h1 ha;have e2:(t % 45)*b<=44*c:=_br h2 hb;omega
 obtain⟨i,j,hij,hj,e⟩:=z8z 2000 (λt=>(((t / 45)*a+(t % 45)*b) % c)*2+(if (t / 45)*a+(t % 45)*b<=44*c then 0 else 1)) (λt ht=>by
  have:=Nat.mod_lt ((t / 45)*a+(t % 45)*b) hc;show _*2+_<2000;split<;>omega);have b1:=bd i (by omega);have b2:=bd j (by omega);have em:((i / 45)*a+(i % 45)*b) % c=((j / 45)*a+(j % 45)*b) % c/\(((i / 45)*a+(i % 45)*b<=44*c) ↔ ((j / 45)*a+(j % 45)*b<=44*c)):=by split at e<;>split at e<;>refine⟨by omega,?_⟩<;>constructor<;>intro _<;>first | assumption | (exfalso;omega)
 obtain⟨em,ew⟩:=em;have d1:=Nat.mod_add_div ((i / 45)*a+(i % 45)*b) c;have d2:=Nat.mod_add_div ((j / 45)*a+(j % 45)*b) c;have ne:i / 45≠j / 45\/i % 45≠j % 45:=by omega
 have x1:i / 45<=44:=by omega
 have x2:j / 45<=44:=by omega
 have x3:i % 45<=44:=by omega
 have x4:j % 45<=44:=by omega
 generalize i / 45=i1 at *;generalize i % 45=i2 at *;generalize j / 45=j1 at *;generalize j % 45=j2 at *;have s1:((i1*a+i2*b:Nat):Int)=(i1:Int)*a+(i2:Int)*b:=by simp
 have s2:((j1*a+j2*b:Nat):Int)=(j1:Int)*a+(j2:Int)*b:=by simp
 generalize i1*a+i2*b=S at *;generalize j1*a+j2*b=T at *;have t1:S=S % c+c*(S / c):=d1.symm;have t2:T=T % c+c*(T / c):=d2.symm;have ml:=Nat.mod_lt S hc;have ys:(S<=44*c->S / c<=44)/\(¬ S<=44*c->44<=S / c)/\S / c<=88:=⟨λw=>_bI (by rw[_b8];exact w),λw=>(Nat.le_div_iff_mul_le hc).mpr (by omega),_bI (by rw[_b8];exact b1)⟩;have yt:(T<=44*c->T / c<=44)/\(¬ T<=44*c->44<=T / c)/\T / c<=88:=⟨λw=>_bI (by rw[_b8];exact w),λw=>(Nat.le_div_iff_mul_le hc).mpr (by omega),_bI (by rw[_b8];exact b2)⟩;have u1:(S:Int)=((S % c:Nat):Int)+((S / c:Nat):Int)*c:=by
  have:=_ba (λz:Nat=>(z:Int)) t1;simp only[Int.natCast_add,_cB]at this;rw[Int.mul_comm ((S / c:Nat):Int)];exact this
 have u2:(T:Int)=((T % c:Nat):Int)+((T / c:Nat):Int)*c:=by
  have:=_ba (λz:Nat=>(z:Int)) t2;simp only[Int.natCast_add,_cB]at this;rw[Int.mul_comm ((T / c:Nat):Int)];exact this
 rw[em]at u1;clear t1 t2 d1 d2;generalize S / c=u at *;generalize T / c=z at *;refine⟨(j1:Int)-i1,(j2:Int)-i2,(u:Int)-(z:Int),by omega,by omega,?_,?_,by omega⟩
 ·by_cases w:S<=44*c
  ·have:=ys.1 w;have:=yt.1 (ew.mp w);omega
  ·have:=ys.2.1 w;have:=yt.2.1 λz=>w (ew.mpr z);omega
 ·rw[_bJ,_bJ,_bJ];omega
theorem zhx {a b c:Int} (ha:0<=a/\a<=1000) (hb:0<=b/\b<=1000) (hc:0<=c/\c<=1000) (hp:0<a\/0<b\/0<c):qm [a,b,c] 44:=by
 have key:∀{x y z:Int},0<=x->x<=z->0<=y->y<=z->0<z->z<=1000->∃p q r:Int,p.natAbs<=44/\q.natAbs<=44/\r.natAbs<=44/\p*x+q*y+r*z=0/\(p≠0\/q≠0\/r≠0):=λ{x y z} h1 h2 h3 h4 h5 h6=>by
  have:=zhl (a:=x.toNat) (b:=y.toNat) (c:=z.toNat) (by omega) (by omega) (by omega) (by omega);rwa [_cM h1,_cM h3,_cM (by omega)]at this
 have fin:∀p q r:Int,p.natAbs<=44->q.natAbs<=44->r.natAbs<=44->p*a+q*b+r*c=0->(p≠0\/q≠0\/r≠0)->qm [a,b,c] 44:=λp q r h1 h2 h3 e ne=>by
  refine⟨[p,q,r],rfl,λi hi=>?_,by simp only[dot_cons,z4Z];omega,?_⟩
  ·simp only[_h,_Z,_bs]at hi;rcases hi with rfl | rfl | rfl<;>assumption
  ·rcases ne with h | h | h;·exact ur (i:=p) (by simp) h
   ·exact ur (i:=q) (by simp) h
   ·exact ur (i:=r) (by simp) h
 by_cases c1:a<=c/\b<=c
 ·obtain⟨p,q,r,h1,h2,h3,e,ne⟩:=key (x:=a) (y:=b) (z:=c) ha.1 c1.1 hb.1 c1.2 (by omega) hc.2;exact fin p q r h1 h2 h3 e ne
 by_cases c2:a<=b/\c<=b
 ·obtain⟨p,q,r,h1,h2,h3,e,ne⟩:=key (x:=a) (y:=c) (z:=b) ha.1 c2.1 hc.1 c2.2 (by omega) hb.2;exact fin p r q h1 h3 h2 (by omega) (by omega)
 ·obtain⟨p,q,r,h1,h2,h3,e,ne⟩:=key (x:=b) (y:=c) (z:=a) hb.1 (by omega) hc.1 (by omega) (by omega) ha.2;exact fin r p q h3 h1 h2 (by omega) (by omega)
theorem zhf{a b c d:Int}(ha:0<=a/\a<=1000)(hb:0<=b/\b<=1000)(hc:0<=c/\c<=1000)(hd:0<=d/\d<=1000):qm [a,b,c,d] 15:=by
 obtain⟨a,rfl⟩:=_au ha.1;obtain⟨b,rfl⟩:=_au hb.1;obtain⟨c,rfl⟩:=_au hc.1;obtain⟨d,rfl⟩:=_au hd.1;obtain⟨i,j,hij,hj,e⟩:=z8z 60001 (λt=>(t / 4096)*a+(t / 256 % 16)*b+(t / 16 % 16)*c+(t % 16)*d) (λt ht=>by
  have e1:(t / 4096)*a<=15*1000:=_br (by omega) (by omega);have e2:(t / 256 % 16)*b<=15*1000:=_br (by omega) (by omega);have e3:(t / 16 % 16)*c<=15*1000:=_br (by omega) (by omega);have e4:(t % 16)*d<=15*1000:=_br (by omega) (by omega);show _+_+_+_<60001;omega);have ne:i / 4096≠j / 4096\/i / 256 % 16≠j / 256 % 16\/i / 16 % 16≠j / 16 % 16\/i % 16≠j % 16:=by omega
 have x1:i / 4096<=15:=by omega
 have x2:j / 4096<=15:=by omega
 have y1:i / 256 % 16<=15:=by omega
 have y2:j / 256 % 16<=15:=by omega
 have z1:i / 16 % 16<=15:=by omega
 have z2:j / 16 % 16<=15:=by omega
 have w1:i % 16<=15:=by omega
 have w2:j % 16<=15:=by omega
 generalize i / 4096=i1 at *;generalize i / 256 % 16=i2 at *;generalize i / 16 % 16=i3 at *;generalize i % 16=i4 at *;generalize j / 4096=j1 at *;generalize j / 256 % 16=j2 at *;generalize j / 16 % 16=j3 at *;generalize j % 16=j4 at *;refine⟨[(j1:Int)-i1,(j2:Int)-i2,(j3:Int)-i3,(j4:Int)-i4],rfl,λk hk=>?_,?_,?_⟩
 ·simp only[_h,_Z,_bs]at hk;rcases hk with rfl | rfl | rfl | rfl<;>omega
 ·simp only[dot_cons,z4Z];rw[_bJ,_bJ,_bJ,_bJ];have:=_ba (λz:Nat=>(z:Int)) e;simp only[Int.natCast_add,_cB]at this;omega
 ·rcases ne with h | h | h | h;·exact ur (i:=(j1:Int)-i1) (by simp) (by omega)
  ·exact ur (i:=(j2:Int)-i2) (by simp) (by omega)
  ·exact ur (i:=(j3:Int)-i3) (by simp) (by omega)
  ·exact ur (i:=(j4:Int)-i4) (by simp) (by omega)
noncomputable def bnd(n:Nat):Nat:=if n=2 then 1000 else if n=3 then 44 else 15
theorem SmL.has{n:Nat}{v:List Int}(h:SmL n v)(hp:∃x∈v,0<x):qm v (bnd n):=by
 have h1:=h.len;have h2:=h.lo;have h3:=h.hi;have bd:=h.bd;obtain⟨x,hx,x0⟩:=hp;match v,h1 with
 | [],e=>simp at e;omega | [_],e=>simp at e;omega | [a,b],e=>
  have:n=2:=by simpa using e.symm
  subst this;simp only[_h,_Z,_bs]at hx;exact zhF (bd a (by simp)) (bd b (by simp)) (by rcases hx with rfl | rfl<;>simp[x0]) | [a,b,c],e=>
  have:n=3:=by simpa using e.symm
  subst this;simp only[_h,_Z,_bs]at hx;exact zhx (bd a (by simp)) (bd b (by simp)) (bd c (by simp)) (by rcases hx with rfl | rfl | rfl<;>simp[x0]) | [a,b,c,d],e=>
  have:n=4:=by simpa using e.symm
  subst this;exact zhf (bd a (by simp)) (bd b (by simp)) (bd c (by simp)) (bd d (by simp)) | _::_::_::_::_::_,e=>simp at e;omega
theorem z87{v:List Int}{W:Nat}(h:qm v W):∃w,w<=W/\1<=w/\qm v w/\∀w',w'<w->¬ qm v w':=by induction W using Nat.strongRecOn with | ind W ih=>
  by_cases q:∃w',w'<W/\qm v w'
  ·obtain⟨w',h1,h2⟩:=q;obtain⟨w,a,b⟩:=ih w' h1 h2;exact⟨w,by omega,b⟩
  ·refine⟨W,_f _,?_,h,λw' h1 h2=>q ⟨w',h1,h2⟩⟩;obtain⟨x,h1,h2,h3,h4⟩:=h;have ne:x≠[]:=λz=>by rw[z]at h4;simp[wgt,maxL]at h4
   obtain⟨i,hi,e⟩:=z5I ne;have:=h2 i hi;omega
theorem z2D:∀{x y v:List Int},x.length=y.length->dot (List.zipWith (λa b=>a-b) x y) v=dot x v-dot y v
 | [],[],v,_=>by simp[dot] | a::x,b::y,[],_=>by simp[dot] | a::x,b::y,c::v,h=>by
  rw[_ah,dot_cons,dot_cons,dot_cons,z2D (by simpa using h),_bJ];omega
theorem z5u:∀{x y:List Int},x.length=y.length->(∀i∈List.zipWith (λa b:Int=>a-b) x y,i=0)->x=y
 | [],[],_,_=>rfl | a::x,b::y,h,z=>by
  simp only[_ah,_h,forall_eq_or_imp]at z;rw[z5u (by simpa using h) z.2,show a=b by omega]
open L2 Dd Pg Pn Po Pr
structure LW(n:Nat)(v:List Int)(w:Nat):Prop where
 L:SmL n v
 pos:∃x∈v,0<x
 le:w<=bnd n
 one:1<=w
 has:qm v w
 no:∀w',w'<w->¬ qm v w'
theorem SmL.lw{n:Nat}{v:List Int}(h:SmL n v)(hp:∃x∈v,0<x):∃w,LW n v w:=by
 obtain⟨w,a,b,c,d⟩:=z87 (h.has hp);exact⟨w,h,hp,a,b,c,d⟩
theorem LW.lot{n w:Nat}{v:List Int}(h:LW n v w):Lot n v:=⟨by have:=h.L.lo;have:=h.L.hi;unfold Sz;omega,h.L.len,λx hx=>(h.L.bd x hx).1,h.pos⟩
section
variable {n w:Nat}{v:List Int}(h:LW n v w)
include h
theorem LW.relne{m:Nat}{x:List Int}(hx:x∈rel v m):x≠[]/\x.length<=1000/\(w:Int)<=wgt x:=by
 obtain⟨h1,h2,h3,h4⟩:=z0L.mp hx;have vl:=h.L.len;have lo:=h.L.lo;have hi:=h.L.hi;have ne:x≠[]:=λz=>by rw[z]at h1;simp at h1;omega
 refine⟨ne,by omega,?_⟩;rcases Int.lt_or_le (wgt x) w with z | z
 ·have nn:=zdZ ne;refine absurd ⟨x,h1,?_,h3,h4⟩ (h.no (wgt x).toNat (by omega));exact (zev ne).mp (by omega)
 ·exact z
theorem LW.want (s:Sto):xq [rD v] s=.ok .non s:=by
 have w1:=z6u h.lot s;have mx:vp [rD v] s=.ok (.int (maxL v)) s:=z8b s h.lot.ne;have mle:maxL v<=1000:=(h.L.bd _ (maxL_mem h.lot.ne)).2;have key:∀d:D,wv [d] s=.ok .non s->vp [d] s=.ok (.int (maxL v)) s->xq [d] s=.ok .non s:=λd h1 h2=>by
  have st:zK ["lot"] [d]=[some d]:=rfl;simp only[xq,Mof,jm,st,_s,_F,_N];rw[zD (ρ':=[some d]) (s':=s) (by rw[qV,uB,xh (x:=d) (vr rfl),h1];rfl),qS,z96 (vL (by rw[op2 (x:=.int (maxL v)) (y:=.int 1000) (by rw[xh (x:=d) (vr rfl)];exact h2) rfl,z9r,_O (by omega)]))];rfl
 exact key _ w1 mx
end
theorem z80{n m w:Nat}{v:List Int}(h:LW n v w)(hm:m<=8)(s:Sto):zt [rD v,.int m] s=.ok (.lst ((rel v m).map rD)) s:=by
 have vl:=h.L.len;have lo:=h.L.lo;have hi:=h.L.hi;have hl:(2*m+1)<=17:=by omega
 have p:∀k,k<=4->(2*m+1) ^ k<=90000:=λk hk=>by
  have p1:(2*m+1) ^ k<=17 ^ k:=_cN hl k;have p2:17 ^ k<=17 ^ 4:=_aL (by omega) hk;omega
 exact z4R h.L (by omega) (p _ (by omega)) (p _ (by omega)) (_M (_bj _ _) (_M z0H (p _ (by omega)))) s
theorem LW.often {n m w:Nat} {v:List Int} (h:LW n v w) (h1:1<=m) (h8:m<=8) (s:Sto):zh [rD v,.int m] s=.ok .non s:=by
 have w1:=h.want s;have w2:=z6A (x:=(m:Int)) (a:=1) (b:=8) (by omega) (by omega) s;have key:∀d e:D,xq [d] s=.ok .non s->xu [e,.int 1,.int 8] s=.ok .non s->zh [d,e] s=.ok .non s:=λd e e1 e2=>by
  have st:zK ["lot","number"] [d,e]=[some d,some e]:=rfl;simp only[zh,Mof,wb,st,_s,_F,_N];rw[zD (ρ':=[some d,some e]) (s':=s) (by rw[xP,uB,xh (x:=d) (vr rfl),e1];rfl),xU,uB,z2Y (x:=e) (y:=.int 1) (z:=.int 8) (vr rfl) rfl rfl,e2];rfl
 exact key _ _ w1 w2
theorem LW.hasnone {n m w:Nat} {v:List Int} (h:LW n v w) (h1:1<=m) (h8:m<=8) (s:Sto):wY [rD v,.int m] s=.ok (.bl (rel v m).isEmpty) s:=by
 have w1:=h.often h1 h8 s;have w2:=z80 h h8 s;have key:∀d e:D,zh [d,e] s=.ok .non s->zt [d,e] s=.ok (.lst ((rel v m).map rD)) s->wY [d,e] s=.ok (.bl (rel v m).isEmpty) s:=λd e e1 e2=>by
  have st:zK ["lot","number"] [d,e]=[some d,some e]:=rfl;simp only[wY,Mof,z0D,st,_s,_F,_N];rw[zD (ρ':=[some d,some e]) (s':=s) (by rw[kA,uB,call2 (x:=d) (y:=e) (vr rfl) (vr rfl),e1];rfl),kD,wS];unfold zc0;rw[call2 (x:=d) (y:=e) (vr rfl) (vr rfl),e2,Rb];simp[Dd.listOf]
 exact key _ _ w1 w2
end Pv
namespace Pp
open L2 Dd Pm Pg Pn
end Pp
namespace Po
open L2 Dd Pm Pg Pn
end Po
namespace Pp
open L2 Dd Pm Pg Pn
end Pp
namespace Pv
open L2 Dd Pm Pg Pn Po Pr Pp Pt
theorem zhs{r:Int}(s:Sto)(h0:0<=r)(h1:r<3):∃far:Int,dIx (.lst [.int 10,.int 61,.int 1001]) (.int r) s=.ok (.int far) s/\10<=far/\far<=1001:=by
 obtain⟨k,rfl⟩:=_au h0;have:k=0\/k=1\/k=2:=by omega
 rcases this with rfl | rfl | rfl;·exact⟨10,rfl,by decide,by decide⟩
 ·exact⟨61,rfl,by decide,by decide⟩
 ·exact⟨1001,rfl,by decide,by decide⟩
theorem z31(B:Int):∀ys:List D,(∀y∈ys,∃x:Int,y=.int x/\0<=x/\x<=B)->∃xs:List Int,ys=iL xs/\∀x∈xs,0<=x/\x<=B
 | [],_=>⟨[],rfl,by simp⟩ | y::ys,h=>by
  obtain⟨x,rfl,hx⟩:=h y (by simp);obtain⟨xs,rfl,hs⟩:=z31 B ys λz hz=>h z (by simp[hz]);exact⟨x::xs,rfl,λz hz=>by rcases _h.mp hz with rfl | hz;exact hx;exact hs z hz⟩
noncomputable abbrev EvS(l:Nat)(n:Nat)(a3 a4 a5 a6 a7:Option D):Ev:=[some (.loc l),some (.int n),a3,a4,a5,a6,a7]
theorem z4P {s:Sto} {l n:Nat} (h:Pot s l) (hsz:Sz n):∃v s',yR [.loc l,.int n] s=.ok (rD v) s'/\SmL n v/\(∃x∈v,0<x)/\yQ s s' l:=by
 have hl:=h.lt;have hn:2<=n/\n<=4:=by unfold Sz at hsz;omega
 have st:zK ["_law_pot_here","_law_size","_law_far","_law_found","_law_at","_law_to","_law_way"] [.loc l,.int n]=EvS l n none none none none none:=rfl;obtain⟨r1,s1,e1,a1,b1,d1⟩:=qp (ρ:=EvS l n none none none none none) (f:=zd 0) (g:=eC (.int 3)) (far:=3) h (by decide) (z1A (by decide)) (by simp) (by simp);obtain⟨far,ef,f0,f1⟩:=zhs s1 a1 b1;have ft:far<2 ^ 2000:=Int.lt_of_le_of_lt f1 (by decide +kernel);have p1:wd (EvS l n none none none none none) s=.ok (.nx (EvS l n (some (.int far)) none none none none)) s1:=by
  have:z04 (za (eC (.int 10)) (za (eC (.int 61)) (za (eC (.int 1001)) zi))) (EvS l n none none none none none) s=.ok (.lst [.int 10,.int 61,.int 1001]) s:=by
   simp only[z1Q,zN,xk,z94,Rb];rw[_g (by simp[cap])]
  rw[wd,yO,z3d,this,Rb,e1,Rb,ef];rfl
 obtain⟨ys,s2,e2,y1,y2,d2⟩:=z9n (fi:=z2l (za (zd 1) zi)) (mp:=[some 0,some 2,none]) (fg:=xK 2) (fe:=ze zk (za (zd 0) (za (zd 1) zi))) (ρ:=EvS l n (some (.int far)) none none none none) (s:=s1) (s0:=s1) (λk:Nat=>D.int ((k:Nat):Int)) (λk=>[some (.loc l),some (.int far),some (.int ((k:Nat):Int))]) (λ_ s'=>yQ s s' l) (λy=>∃x:Int,y=.int x/\0<=x/\x<=1000) (List.range n) (uU (n:=n) (by omega) (by simp)) (λk _ s=>by simp) (λi k _ s' hd=>by
   obtain⟨x,s'',e,x0,x1,d⟩:=zbj hd.pot (far:=far) (by omega) ft;exact⟨.int x,s'',by rw[call2 (x:=.loc l) (y:=.int far) (vr rfl) (vr rfl)];exact e,⟨x,rfl,x0,by omega⟩,hd.trans d⟩) (by simp[cap];omega) d1 (λy ⟨x,hx,_⟩=>by subst hx;rfl);obtain⟨xs,rfl,x2⟩:=z31 1000 ys y2;have n2:xs.length=n:=by simpa using y1
 have p2:wk (EvS l n (some (.int far)) none none none none) s1=.ok (.nx (EvS l n (some (.int far)) (some (.loc s.length)) none none none)) (s2++[iL xs]):=by
  rw[wk,yO,e2,Rb,d2.len];rfl
 have L3:=LS.start d2 h xs;obtain⟨at_,s4,e4,a4,b4,d4⟩:=qp (ρ:=EvS l n (some (.int far)) (some (.loc s.length)) none none none) (f:=zd 0) (g:=zd 1) (far:=n) L3.pot (by omega) (z1A (by omega)) (by simp) (by simp);have L4:=L3.drawn hl d4;obtain⟨to,s5,e5,a5,b5,d5⟩:=qp (ρ:=EvS l n (some (.int far)) (some (.loc s.length)) none none none) (f:=zd 0) (g:=zd 1) (far:=n) L4.pot (by omega) (z1A (by omega)) (by simp) (by simp);have L5':=L4.drawn hl d5;have p3:xY (EvS l n (some (.int far)) (some (.loc s.length)) none none none) (s2++[iL xs])=.ok (.nx (EvS l n (some (.int far)) (some (.loc s.length)) (some (.int at_)) (some (.int to)) none)) s5:=by
  rw[xY,zaK,zN,e4,Rb,zN,e5];rfl
 obtain⟨way,s5w,e3,a3,b3,d3⟩:=qp (ρ:=EvS l n (some (.int far)) (some (.loc s.length)) (some (.int at_)) (some (.int to)) none) (f:=zd 0) (g:=eC (.int 5)) (far:=5) L5'.pot (by decide) (z1A (by decide)) (by simp) (by simp);have L5:=L5'.drawn hl d3;have p4:we (EvS l n (some (.int far)) (some (.loc s.length)) (some (.int at_)) (some (.int to)) none) s5=.ok (.nx (EvS l n (some (.int far)) (some (.loc s.length)) (some (.int at_)) (some (.int to)) (some (.int way)))) s5w:=by rw[we,yO,e3];rfl
 let E:=EvS l n (some (.int far)) (some (.loc s.length)) (some (.int at_)) (some (.int to)) (some (.int way));have s5':∃s6 ys,xc E s5w=.ok (.nx E) s6/\LS s l s6 ys/\(∀y∈ys,0<=y/\y<=1000)/\ys.length=n:=by
  have t:tOf (eOp dEq (zd 6) (eC (.int 0))) E s5w=.ok (decide (way=0)) s5w:=vL (by rw[op2 (x:=.int way) (y:=.int 0) (vr rfl) rfl,z7U]);by_cases z:way=0
  ·refine⟨_,_,?_,L5.set hl (xs.set at_.toNat 0),z91 x2 (by omega),by simp[n2]⟩;rw[xc,z3M,t,Rb,_g (by simpa using z),vB];exact z4E (s1:=s5w) (s2:=s5w) (x:=0) rfl (vr rfl) (vr rfl) L5.at_ a4 (by omega)
  ·refine⟨s5w,xs,?_,L5,x2,n2⟩;rw[xc,z3M,t,Rb,_j (by simpa using z)];rfl
 obtain⟨s6,ys,p5,L6,x6,n6⟩:=s5';have s7':∃s7 zs,xf E s6=.ok (.nx E) s7/\LS s l s7 zs/\(∀y∈zs,0<=y/\y<=1000)/\zs.length=n:=by
  have t:tOf (eOp dEq (zd 6) (eC (.int 1))) E s6=.ok (decide (way=1)) s6:=vL (by rw[op2 (x:=.int way) (y:=.int 1) (vr rfl) rfl,z7U]);by_cases z:way=1
  ·have hra:to.toNat<ys.length:=by omega
   have ix:=zdH (d:=.int ys[to.toNat]) L6.at_ a5 (by simp[hra]);have my:=x6 ys[to.toNat] (_a9 hra);refine⟨_,_,?_,L6.set hl (ys.set at_.toNat ys[to.toNat]),z91 x6 my,by simp[n6]⟩;rw[xf,z3M,t,Rb,_g (by simpa using z),vD];exact z4E (s1:=s6) (s2:=s6) (x:=ys[to.toNat]) (by rw[op2 (x:=.loc s.length) (y:=.int to) (vr rfl) (vr rfl)];exact ix) (vr rfl) (vr rfl) L6.at_ a4 (by omega)
  ·refine⟨s6,ys,?_,L6,x6,n6⟩;rw[xf,z3M,t,Rb,_j (by simpa using z)];rfl
 obtain⟨s7,zs,p7,L7,x7,n7⟩:=s7';have ne7:zs≠[]:=λz=>by rw[z]at n7;simp at n7;omega
 have s9':∃s9 ws,yY E s7=.ok (.nx E) s9/\LS s l s9 ws/\(∀y∈ws,0<=y/\y<=1000)/\ws.length=n/\∃x∈ws,0<x:=by
  have t:=zci (f:=zd 3) (ρ:=E) ne7 L7.at_ (vr rfl);by_cases z:maxL zs=0
  ·obtain⟨ra,sa,ea,aa,ba,da⟩:=qp (ρ:=E) (f:=zd 0) (g:=eOp zaM (zd 2) (eC (.int 1))) (far:=far-1) L7.pot (by omega) (Int.lt_trans (by omega) ft) (vr rfl) (by rw[op2 (x:=.int far) (y:=.int 1) (vr rfl) rfl];rfl);have La:=L7.drawn hl da;refine⟨_,_,?_,La.set hl (zs.set to.toNat (1+ra)),z91 x7 (by omega),by simp[n7],1+ra,List.mem_set (by omega) _,by omega⟩;rw[yY,z3M,t,Rb,_g (by simpa using z),vq];exact z4E (s1:=sa) (s2:=sa) (x:=1+ra) (by rw[z3d,z94,Rb,ea];rfl) (vr rfl) (vr rfl) La.at_ a5 (by omega)
  ·refine⟨s7,zs,?_,L7,x7,n7,z6S ne7 (λy hy=>(x7 y hy).1) z⟩;rw[yY,z3M,t,Rb,_j (by simpa using z)];rfl
 obtain⟨s9,ws,p9,L9,x9,n9,w9⟩:=s9';refine⟨ws,s9.take s.length,?_,⟨n9,hn.1,hn.2,x9⟩,w9,L9.fin hl⟩;simp only[yR,z2H,Mof,vV,st,_s,_F,_N];rw[zD p1,zD p2,zD p3,zD p4,zD p5,zD p7,zD p9];have c:wn [.loc s.length] s9=.ok (rD ws) s9:=by simp only[wn,ye,L9.at_]
 rw[va,wS,xh (x:=.loc s.length) (vr rfl),c];simp only[Rb];exact z9Z
theorem z2V:∀a b:List Int,HT.lexLt a b=lexN a b
 | [],[]=>rfl | [],_::_=>rfl | _::_,[]=>rfl | x::a,y::b=>by
  show (if x=y then HT.lexLt a b else decide (x<y))=if x=y then lexN a b else decide (x<y);rw[z2V a b]
noncomputable def neg(x:List Int):List Int:=x.map λi=>-i
noncomputable def abv(x:List Int):List Int:=x.map λi=>max i 0
theorem z9s {x:List Int} (hl:x.length<=1000) (s:Sto):wA [rD x] s=.ok (rD (neg x)) s:=by
 have c:=comp_map (ρ:=[some (rD x)]) (mp:=[none]) (fg:=xK 0) (fe:=z5c (zd 0)) (s:=s) (fi:=xg (zd 0)) D.int (λi:Int=>D.int (-i)) (λi=>[some (.int i)]) x (jI (vr rfl)) (λi _=>rfl) (λi _=>by rw[z3A,vr (d:=.int i) rfl,Rb]) (by simp[cap];omega);have key:∀(d:D) (ys:List D),zX (xg (zd 0)) [none] (xK 0) xJ (z5c (zd 0)) [some d] s=.ok (.lst ys) s->wA [d] s=.ok (.tup ys) s:=λd ys h=>by
  have st:zK ["line"] [d]=[some d]:=rfl;simp only[wA,Mof,z3X,st,_s,_F,_N];rw[z1G,wS,xh h];simp[wn,ye]
 rw[key _ _ c];simp[neg,rD,_aO]
theorem z7y {x:List Int} (hl:x.length<=1000) (s:Sto):uz [rD x] s=.ok (rD (abv x)) s:=by
 have c:=comp_map (ρ:=[some (rD x)]) (mp:=[none]) (fg:=xK 0) (fe:=ze z48 (za (zd 0) (za (eC (.int 0)) zi))) (s:=s) (fi:=xg (zd 0)) D.int (λi:Int=>D.int (max i 0)) (λi=>[some (.int i)]) x (jI (vr rfl)) (λi _=>rfl) (λi _=>by rw[call2 (x:=.int i) (y:=.int 0) (vr rfl) rfl];simp only[z48];congr 2;split<;>omega) (by simp[cap];omega);have key:∀(d:D) (ys:List D),zX (xg (zd 0)) [none] (xK 0) xJ (ze z48 (za (zd 0) (za (eC (.int 0)) zi))) [some d] s=.ok (.lst ys) s->uz [d] s=.ok (.tup ys) s:=λd ys h=>by
  have st:zK ["line"] [d]=[some d]:=rfl;simp only[uz,Mof,z5h,st,_s,_F,_N];rw[z3O,wS,xh h];simp[wn,ye]
 rw[key _ _ c];simp[abv,rD,_aO]
noncomputable def cls(v:List Int)(m:Nat):List (List Int×List Int):=((rel v m).filter λx=>lexN (neg x) x).map λx=>(abv (neg x),abv x)
noncomputable abbrev cD2(p:List Int×List Int):D:=.tup [rD p.1,rD p.2]
theorem LW.fc {n m w:Nat} {v:List Int} (h:LW n v w) (h1:1<=m) (h8:m<=8) (s:Sto) (y:D) (hy:xo [some (rD v),some (.int m),some (.lst ((cls v m).map cD2))] s=.ok (.rt y) s):zR [rD v,.int m] s=.ok y s:=by
 have w1:=h.often h1 h8 s;have w2:=z80 h h8 s;have rn:∀x∈rel v m,x.length<=1000:=λx hx=>(h.relne hx).2.1;have rl:(rel v m).length<=90000:=by
  have:=_bj (z9e v) (box v.length m);have b:=z0H (n:=v.length) (m:=m);have:(2*m+1) ^ v.length<=17 ^ 4:=_M (_cN (by omega) _) (_aL (by omega) (by have:=h.L.len;have:=h.L.hi;omega));unfold rel;omega
 have key:∀d e:D,zh [d,e] s=.ok .non s->zt [d,e] s=.ok (.lst ((rel v m).map rD)) s->xo [some d,some e,some (.lst ((cls v m).map cD2))] s=.ok (.rt y) s->zR [d,e] s=.ok y s:=λd e e1 e2 e3=>by
  have st:zK ["lot","number","clashes"] [d,e]=[some d,some e,none]:=rfl;have tn:∀(x:List Int) (hx:x∈rel v m),ze wA (za (zd 0) zi) [some (rD x)] s=.ok (rD (neg x)) s:=λx hx=>by rw[xh (x:=rD x) (vr rfl)];exact z9s (rn x hx) s
  have c:=z5J (fi:=xg (ze zt (za (zd 0) (za (zd 1) zi)))) (mp:=[none]) (fg:=xK 0) (ft:=tOf (eOp z9q (ze wA (za (zd 0) zi)) (zd 0))) (fe:=vA (za (ze uz (za (ze wA (za (zd 0) zi)) zi)) (za (ze uz (za (zd 0) zi)) zi))) (ρ:=[some d,some e,none]) (s:=s) rD (λx=>cD2 (abv (neg x),abv x)) (λx=>lexN (neg x) x) (λx=>[some (rD x)]) (rel v m) (ut (by rw[call2 (x:=d) (y:=e) (vr rfl) (vr rfl)];exact e2)) (λx _=>rfl) (λx hx=>vL (by
    rw[op2 (x:=rD (neg x)) (y:=rD x) (tn x hx) (vr rfl)];simp only[z9q];rw[show intsOf (iL (neg x))=some (neg x) from xx _,show intsOf (iL x)=some x from xx _];simp only[];rw[z2V])) (λx hx _=>by
    have nl:(neg x).length<=1000:=by unfold neg;rw[_o];exact rn x hx
    rw[z1K,zN,xh (x:=rD (neg x)) (tn x hx),z7y nl,Rb,zN,xh (x:=rD x) (vr rfl),z7y (rn x hx),Rb,xk];simp[cap]) (by unfold cap;omega);have ec:((rel v m).filter λx=>lexN (neg x) x).map (λx=>cD2 (abv (neg x),abv x))=(cls v m).map cD2:=by unfold cls;rw[_aI];rfl
  rw[ec]at c;simp only[zR,Mof,qL,st,_s,_F,_N];rw[zD (ρ':=[some d,some e,none]) (s':=s) (by rw[qa,uB,call2 (x:=d) (y:=e) (vr rfl) (vr rfl),e1];rfl),zD (ρ':=[some d,some e,some (.lst ((cls v m).map cD2))]) (s':=s) (by rw[qt,yO,c];rfl),e3]
 exact key _ _ w1 w2 hy
end Pv
namespace Pw
open L2 Dd Pm Pt Pv
theorem z2T:∀(b:NQ)(L:List NQ),kf b L∈b::L
 | b,[]=>by simp[kf] | b,x::L=>by
  have:=z2T (if yk x b then x else b) L;unfold kf;rcases _h.mp this with e | e;·rw[e];split<;>simp
  ·simp[e]
theorem z3c{a b c:NQ}(h1:yk b a=false)(h2:yk c b=false):yk c a=false:=by cases h:yk c a with
 | false=>rfl | true=>
  by_cases e:c=b;·subst e;rw[h]at h1;cases h1
  ·have h3:yk b c=true:=by rw[yx.tot c b e,h2];rfl
   rw[yx.tr _ _ _ h3 h]at h1;cases h1
theorem z7T:∀(b:NQ)(L:List NQ),∀x∈b::L,yk x (kf b L)=false
 | b,[],x,h=>by simp at h;subst h;simp[kf,yx.irr] | b,y::L,x,h=>by
  have ih:=z7T (if yk y b then y else b) L;unfold kf;have hd:=ih _ (.head _);rcases _h.mp h with rfl | h
  ·refine z3c hd ?_;split
   ·rename_i q;have:y≠x:=λz=>by rw[z,yx.irr]at q;cases q
    rw[yx.tot y x this,q];rfl
   ·exact yx.irr _
  ·rcases _h.mp h with rfl | h
   ·refine z3c hd ?_;split;·exact yx.irr _
    ·rename_i q;simpa using q
   ·exact ih x (.tail _ h)
theorem za9(L:List NQ):(zV yk L).Pairwise λa b=>yk b a=false:=by
 have Oo:=yx;have:=List.pairwise_mergeSort (le:=λa b:NQ=>!yk b a) (λa b c h1 h2=>by
  simp only[_aP]at h1 h2 ⊢;exact z3c h1 h2) (λa b=>by
  by_cases e:a=b;·rw[e,Oo.irr];rfl
  ·rw[Oo.tot a b e];cases yk a b<;>rfl) L;exact this.imp λh=>by simpa using h
theorem heads{C:NQ->Prop}{S1 S2:List NQ}(a1:∀c∈S1,C c)(a2:∀c,C c->∃s∈S1,s=c\/yk s c=true)(b1:∀c∈S2,C c)(b2:∀c,C c->∃s∈S2,s=c\/yk s c=true): (S2=[]->zV yk S1=[])/\∀n M,S2=n::M->∃t,zV yk S1=kf n M::t:=by
 have pm:=qF yk S1;refine⟨λe=>?_,λn M e=>?_⟩;·cases q:zV yk S1 with
  | nil=>rfl | cons x t=>
   have hx:x∈S1:=pm.mem_iff.mp (by rw[q];exact .head _);obtain⟨s,hs,_⟩:=b2 x (a1 x hx);rw[e]at hs;cases hs
 ·have hm:kf n M∈S2:=by rw[e];exact z2T n M
  cases q:zV yk S1 with
  | nil=>
   obtain⟨s,hs,_⟩:=a2 _ (b1 _ hm);have:=pm.mem_iff.mpr hs;rw[q]at this;cases this | cons x t=>
   refine⟨t,?_⟩;have pw:=za9 S1;rw[q,_bf]at pw;have hx:x∈S1:=pm.mem_iff.mp (by rw[q];exact .head _);have lx:∀y∈S1,yk y x=false:=λy hy=>by
    have:=pm.mem_iff.mpr hy;rw[q]at this;rcases _h.mp this with rfl | h;·exact yx.irr _
    ·exact pw.1 y h
   have l1:yk (kf n M) x=false:=by
    obtain⟨s,hs,h⟩:=a2 _ (b1 _ hm);have:=lx s hs;rcases h with rfl | h;·exact this
    ·cases z:yk (kf n M) x with
     | false=>rfl | true=>rw[yx.tr _ _ _ h z]at this;cases this
   have l2:yk x (kf n M)=false:=by
    obtain⟨s,hs,h⟩:=b2 _ (a1 _ hx);have:=z7T n M s (by rw[<- e];exact hs);rcases h with rfl | h;·exact this
    ·cases z:yk x (kf n M) with
     | false=>rfl | true=>rw[yx.tr _ _ _ h z]at this;cases this
   have:x=kf n M:=_bL λne=>by rw[yx.tot _ _ ne,l2]at l1;cases l1
   rw[this]
def Cl(v:List Int)(m:Nat)(c:NQ):Prop:=c.1∈xR v.length m/\c.2∈xR v.length m/\dot c.1 v=dot c.2 v/\lexN c.1 c.2=true
abbrev Gd:=List (Int×List (List Int))
noncomputable def z3m(k:Int)(x:List Int):Gd->Gd
 | []=>[(k,[x])] | (j,ys)::t=>if j=k then (j,ys++[x])::t else (j,ys)::z3m k x t
structure GI(v:List Int)(P:List (List Int))(g:Gd):Prop where
 nd:(g.map (·.1)).Nodup
 at_:∀e∈g,e.2=P.filter (λx=>decide (dot x v=e.1))/\e.2≠[]
 al:∀x∈P,dot x v∈g.map (·.1)
theorem z19(k:Int)(x:List Int):∀g:Gd,(z3m k x g).map (·.1)=if k∈g.map (·.1) then g.map (·.1) else g.map (·.1)++[k]
 | []=>by simp[z3m] | (j,ys)::t=>by
  unfold z3m;by_cases e:j=k;·rw[_g e];simp[e]
  ·rw[_j e];have e':¬ k=j:=λz=>e z.symm;simp only[_l,z19 k x t,_h,e',false_or];split<;>simp
theorem z5Q{k:Int}{x:List Int}:∀{g:Gd}{e:Int×List (List Int)},(g.map (·.1)).Nodup->e∈z3m k x g->(e∈g/\e.1≠k)\/(∃ys,(k,ys)∈g/\e=(k,ys++[x]))\/(k∉g.map (·.1)/\e=(k,[x]))
 | [],e,_,h=>by simp[z3m]at h;exact .inr (.inr ⟨by simp,h⟩) | (j,ys)::t,e,nd,h=>by
  simp only[_l,_a4]at nd;unfold z3m at h;by_cases q:j=k
  ·rw[_g q]at h;subst q;rcases _h.mp h with rfl | h;·exact .inr (.inl ⟨ys,.head _,rfl⟩)
   ·exact .inl ⟨.tail _ h,λz=>nd.1 (by rw[<- z];exact _y.mpr ⟨e,h,rfl⟩)⟩
  ·rw[_j q]at h;rcases _h.mp h with rfl | h;·exact .inl ⟨.head _,q⟩
   ·rcases z5Q nd.2 h with⟨h,h'⟩ | ⟨zs,h,h'⟩ | ⟨h,h'⟩;·exact .inl ⟨.tail _ h,h'⟩
    ·exact .inr (.inl ⟨zs,.tail _ h,h'⟩)
    ·exact .inr (.inr ⟨by simp only[_l,_h,not_or];exact⟨λz=>q z.symm,h⟩,h'⟩)
theorem GI.add{v:List Int}{P:List (List Int)}{g:Gd}(h:GI v P g)(x:List Int):GI v (P++[x]) (z3m (dot x v) x g):=by
 refine⟨?_,λe he=>?_,λy hy=>?_⟩
 ·rw[z19];split;·exact h.nd
  ·rename_i q;rw[List.nodup_append];exact⟨h.nd,by simp,λa ha b hb=>by simp at hb;subst hb;exact λz=>q (z ▸ ha)⟩
 ·rw[List.filter_append];rcases z5Q h.nd he with⟨q,ne⟩ | ⟨ys,q,rfl⟩ | ⟨q,rfl⟩
  ·obtain⟨h1,h2⟩:=h.at_ e q;have:¬ dot x v=e.1:=λz=>ne z.symm;simp[this,<- h1,h2]
  ·obtain⟨h1,h2⟩:=h.at_ _ q;simp only at h1;simp[<- h1]
  ·have:P.filter (λy=>decide (dot y v=dot x v))=[]:=by
    rw[List.filter_eq_nil_iff];intro y hy z;exact q (by rw[<- _a3 z];exact h.al y hy)
   simp[this]
 ·rw[z19];rcases _E.mp hy with hy | hy
  ·have:=h.al y hy;split;·exact this
   ·exact _E.mpr (.inl this)
  ·simp at hy;subst hy;split;·assumption
   ·simp
noncomputable def z4q(v:List Int)(P:List (List Int)):Gd:=P.foldl (λg x=>z3m (dot x v) x g) []
theorem z0I(v:List Int)(P:List (List Int)):GI v P (z4q v P):=by
 have key:∀(P Q:List (List Int))(g:Gd),GI v Q g->GI v (Q++P) (P.foldl (λg x=>z3m (dot x v) x g) g):=by
  intro P;induction P with
  | nil=>intro Q g h;simpa using h | cons x P ih=>intro Q g h;simpa using ih _ _ (h.add x)
 exact key P [] [] ⟨by simp,(λe h=>by cases h),λx h=>by cases h⟩
theorem z7H(v:List Int)(P:List (List Int))(x:List Int):z4q v (P++[x])=z3m (dot x v) x (z4q v P):=by simp[z4q]
noncomputable def prs(g:Gd):List NQ:=(g.filter λe=>decide (1<e.2.length)).map λe=>(e.2.getD 0 [],e.2.getD 1 [])
noncomputable def wL(v:List Int)(m:Nat):List NQ:=prs (z4q v (xR v.length m))
theorem zaJ{v:List Int}{m:Nat}:∀c∈wL v m,Cl v m c:=λc hc=>by
 obtain⟨e,he,rfl⟩:=_y.mp hc;rw[_K]at he;obtain⟨h1,_⟩:=(z0I v (xR v.length m)).at_ e he.1;have up:Up e.2:=by rw[h1];exact (z7S _ _).filter _
 have mem:∀y∈e.2,y∈xR v.length m/\dot y v=e.1:=λy hy=>by
  rw[h1,_K]at hy;exact⟨hy.1,_a3 hy.2⟩
 match hE:e.2,he.2 with
 | [],q=>simp at q | [_],q=>simp at q | a::b::t,_=>
  rw[hE]at up mem;simp only[_cO,_cP];have ma:=mem a (by simp);have mb:=mem b (by simp);exact⟨ma.1,mb.1,by rw[ma.2,mb.2],(_bf.mp up).1 b (by simp)⟩
theorem zep{v:List Int}{m:Nat}:∀c,Cl v m c->∃s∈wL v m,s=c\/yk s c=true:=λc hc=>by
 obtain⟨h1,h2,h3,h4⟩:=hc;have G:=z0I v (xR v.length m);obtain⟨e,he,ek⟩:=_y.mp (G.al c.1 h1);obtain⟨g1,_⟩:=G.at_ e he;have up:Up e.2:=by rw[g1];exact (z7S _ _).filter _
 have m1:c.1∈e.2:=by rw[g1,_K];exact⟨h1,_aa ek.symm⟩
 have m2:c.2∈e.2:=by rw[g1,_K];exact⟨h2,_aa (by rw[<- h3,ek])⟩
 have ne:c.1≠c.2:=λz=>by rw[z,xX]at h4;cases h4
 match hE:e.2 with
 | []=>rw[hE]at m1;cases m1 | [a]=>rw[hE]at m1 m2;simp at m1 m2;exact absurd (m1.trans m2.symm) ne | a::b::t=>
  refine⟨(a,b),_y.mpr ⟨e,_K.mpr ⟨he,by rw[hE];simp⟩,by rw[hE];rfl⟩,?_⟩;rw[hE]at up m1 m2;obtain⟨u1,u2⟩:=_bf.mp up;obtain⟨u3,_⟩:=_bf.mp u2;have c2:c.2≠a:=λz=>by
   rcases _h.mp m1 with q | q;·exact ne (q.trans z.symm)
   ·have:=u1 _ q;rw[<- z]at this;have:=z0M h4 this;rw[xX]at this;cases this
  rcases _h.mp m1 with q | q
  ·have m2':=(_h.mp m2).resolve_left c2;rcases _h.mp m2' with q2 | q2;·exact .inl (_cW q.symm q2.symm)
   ·exact .inr (by unfold yk;rw[_g q.symm];exact u3 _ q2)
  ·have:=u1 _ q;exact .inr (by unfold yk;rw[_j (λz:a=c.1=>by rw[z,xX]at this;cases this)];exact this)
theorem z1b:∀x:List Int,List.zipWith (λa b=>a-b) (abv x) (abv (neg x))=x
 | []=>rfl | i::x=>by
  have:=z1b x;simp only[abv,neg,_l,_ah,_aS]at this ⊢;exact⟨by omega,this⟩
theorem z75:∀x:List Int,lexN (neg x) x=true->lexN (abv (neg x)) (abv x)=true
 | [],h=>by simp[neg,lexN]at h | i::x,h=>by
  simp only[abv,neg,_l,lexN]at h ⊢;by_cases e:-i=i
  ·rw[_g e]at h;rw[_g (by omega)];exact z75 x h
  ·rw[_j e,_m]at h;rw[_j (by omega),_m];omega
theorem z2S(x:List Int):(neg x).length=x.length:=by simp[neg]
theorem z12(x:List Int):(abv x).length=x.length:=by simp[abv]
theorem z83{x:List Int}{m:Nat}(h:∀i∈x,i.natAbs<=m):abv x∈xR x.length m:=by
 rw[wU];refine⟨z12 x,λy hy=>?_⟩;obtain⟨i,hi,rfl⟩:=_y.mp hy;have:=h i hi;omega
theorem z7o{x:List Int}{m:Nat}(h:∀i∈x,i.natAbs<=m):∀i∈neg x,i.natAbs<=m:=λy hy=>by
 obtain⟨i,hi,rfl⟩:=_y.mp hy;have:=h i hi;omega
theorem zdP {v:List Int} {m:Nat}:∀c∈cls v m,Cl v m c:=λc hc=>by
 obtain⟨x,hx,rfl⟩:=_y.mp hc;rw[_K]at hx;obtain⟨hl,hb,hd,hw⟩:=z0L.mp hx.1;refine⟨?_,?_,?_,z75 x hx.2⟩;·rw[<- hl,<- z2S];exact z83 (z7o hb)
 ·rw[<- hl];exact z83 hb
 ·have:=z2D (x:=abv x) (y:=abv (neg x)) (v:=v) (by rw[z12,z12,z2S]);rw[z1b,hd]at this;simp only;omega
theorem z7Q:∀{p q:List Int},p.length=q.length->lexN p q=true->lexN (neg (List.zipWith (λa b=>a-b) q p)) (List.zipWith (λa b=>a-b) q p)=true
 | [],[],_,h=>by simp[lexN]at h | [],_::_,h,_=>by simp at h | _::_,[],h,_=>by simp at h | a::p,b::q,hl,h=>by
  simp only[_ah,neg,_l,lexN]at h ⊢;by_cases e:a=b
  ·rw[_g e]at h;rw[_g (by omega)];exact z7Q (by simpa using hl) h
  ·rw[_j e,_m]at h;rw[_j (by omega),_m];omega
theorem z7p:∀{a b:List Int},a.length=b.length->(∀i:Nat,a.getD i 0<=b.getD i 0)->a=b\/lexN a b=true
 | [],[],_,_=>.inl rfl | [],_::_,h,_=>by simp at h | _::_,[],h,_=>by simp at h | x::a,y::b,hl,h=>by
  have h0:x<=y:=by simpa using h 0
  by_cases e:x=y
  ·subst e;rcases z7p (a:=a) (b:=b) (by simpa using hl) (λi=>by simpa using h (i+1)) with q | q;·exact .inl (by rw[q])
   ·exact .inr (by simp[lexN,q])
  ·exact .inr (by rw[lexN,_j e,_m];omega)
theorem zaR:∀{p q:List Int},p.length=q.length->(∀x∈p,0<=x)->(∀x∈q,0<=x)->(∀i:Nat,(abv (neg (List.zipWith (λa b=>a-b) q p))).getD i 0<=p.getD i 0)/\∀i:Nat,(abv (List.zipWith (λa b=>a-b) q p)).getD i 0<=q.getD i 0
 | [],[],_,_,_=>by simp[abv,neg] | [],_::_,h,_,_=>by simp at h | _::_,[],h,_,_=>by simp at h | a::p,b::q,hl,h1,h2=>by
  obtain⟨g1,g2⟩:=zaR (p:=p) (q:=q) (by simpa using hl) (λx hx=>h1 x (.tail _ hx)) (λx hx=>h2 x (.tail _ hx));have p0:=h1 a (.head _);have q0:=h2 b (.head _);refine⟨λi=>?_,λi=>?_⟩;·cases i with
   | zero=>simp only[_ah,neg,abv,_l,_cO];omega | succ i=>simpa only [_ah,neg,abv,_l,_cP] using g1 i
  ·cases i with
   | zero=>simp only[_ah,abv,_l,_cO];omega | succ i=>simpa only [_ah,abv,_l,_cP] using g2 i
theorem z8G{m:Nat}:∀{p q:List Int},(∀x∈p,0<=x/\x<=m)->(∀x∈q,0<=x/\x<=m)->∀i∈List.zipWith (λa b:Int=>a-b) q p,i.natAbs<=m
 | [],q,_,_,i,hi=>by simp at hi | _::_,[],_,_,i,hi=>by simp at hi | a::p,b::q,h1,h2,i,hi=>by
  simp only[_ah,_h]at hi;rcases hi with rfl | hi;·have:=h1 a (.head _);have:=h2 b (.head _);omega
  ·exact z8G (λx hx=>h1 x (.tail _ hx)) (λx hx=>h2 x (.tail _ hx)) i hi
theorem zgv {v:List Int} {m:Nat}:∀c,Cl v m c->∃s∈cls v m,s=c\/yk s c=true:=λc hc=>by
 obtain⟨h1,h2,h3,h4⟩:=hc;obtain⟨l1,b1⟩:=wU.mp h1;obtain⟨l2,b2⟩:=wU.mp h2;have ll:c.1.length=c.2.length:=by rw[l1,l2]
 have xl:(List.zipWith (λa b:Int=>a-b) c.2 c.1).length=v.length:=by rw[List.length_zipWith];omega
 have lx:=z7Q ll h4;obtain⟨r1,r2⟩:=zaR ll (λx hx=>(b1 x hx).1) (λx hx=>(b2 x hx).1);have ab:=z8G b1 b2;have d0:=z2D (x:=c.2) (y:=c.1) (v:=v) ll.symm;have nz:0<wgt (List.zipWith (λa b:Int=>a-b) c.2 c.1):=by
  refine _bL λhn=>?_;have z:∀i∈List.zipWith (λa b:Int=>a-b) c.2 c.1,i=0:=λi hi=>by have:=z77 hi;omega
  have:=z5u ll.symm z;rw[this,xX]at h4;cases h4
 generalize List.zipWith (λa b:Int=>a-b) c.2 c.1=x at xl lx r1 r2 ab d0 nz;refine⟨(abv (neg x),abv x),_y.mpr ⟨x,_K.mpr ⟨z0L.mpr ⟨xl,ab,by omega,nz⟩,lx⟩,rfl⟩,?_⟩;rcases z7p (by rw[z12,z2S,xl,l1]) r1 with q1 | q1
 ·rcases z7p (by rw[z12,xl,l2]) r2 with q2 | q2;·exact .inl (_cW q1 q2)
  ·exact .inr (by unfold yk;rw[_g q1];exact q2)
 ·exact .inr (by unfold yk;rw[_j (λz:abv (neg x)=c.1=>by rw[z,xX]at q1;cases q1)];exact q1)
theorem neg_neg(x:List Int):neg (neg x)=x:=by simp[neg,_aO]
theorem zcA(x:List Int):wgt (neg x)=wgt x:=by simp[wgt,neg,_aO]
theorem zdV{x:List Int}(h:0<wgt x):neg x≠x:=λz=>by
 have:∀i∈x,i=0:=by
  clear h;induction x with
  | nil=>intro i hi;cases hi | cons j x ih=>
   simp only[neg,_l,_aS]at z;intro i hi;rcases _h.mp hi with rfl | hi;·omega
   ·exact ih z.2 i hi
 cases x with
 | nil=>simp[wgt,maxL]at h | cons j x=>
  obtain⟨i,hi,e⟩:=z5I (x:=j::x) (by simp);rw[e,this i hi]at h;simp at h
theorem z8M:∀(x v:List Int),dot (neg x) v=- dot x v
 | [],v=>by simp[neg,dot] | _::_,[]=>by simp[neg,dot] | a::x,b::v=>by
  have:=z8M x v;simp only[neg,_l]at this ⊢;simp[dot]at this ⊢;rw[this];rw[Int.neg_mul];omega
theorem cls_nil{v:List Int}{m:Nat}:cls v m=[] ↔ rel v m=[]:=by
 refine⟨λh=>?_,λh=>by simp[cls,h]⟩;cases q:rel v m with
 | nil=>rfl | cons x t=>
  exfalso;have no:∀y∈rel v m,lexN (neg y) y=true->False:=λy hy z=>by
   have:(abv (neg y),abv y)∈cls v m:=_y.mpr ⟨y,_K.mpr ⟨hy,z⟩,rfl⟩;rw[h]at this;cases this
  have hx:x∈rel v m:=by rw[q];exact .head _
  obtain⟨hl,hb,hd,hw⟩:=z0L.mp hx;have hn:neg x∈rel v m:=z0L.mpr ⟨by rw[z2S,hl],z7o hb,by rw[z8M,hd];rfl,by rw[zcA];exact hw⟩;cases z:lexN (neg x) x with
  | true=>exact no x hx z | false=>exact no _ hn (by rw[neg_neg,qI (zdV hw),z];rfl)
theorem z1X (v:List Int) (m:Nat):(rel v m=[] ↔ zV yk (wL v m)=[])/\(cls v m=[]->zV yk (wL v m)=[])/\∀n M,cls v m=n::M->∃t,zV yk (wL v m)=kf n M::t:=by
 obtain⟨h1,h2⟩:=heads (zaJ (v:=v) (m:=m)) zep zdP zgv;refine⟨⟨λh=>h1 (cls_nil.mpr h),λh=>cls_nil.mp ?_⟩,h1,h2⟩;cases q:cls v m with
 | nil=>rfl | cons n M=>
  obtain⟨t,e⟩:=h2 n M q;rw[e]at h;cases h
theorem z6b{v:List Int}{m:Nat}{c:NQ}(h:c∈zV yk (wL v m)):Cl v m c:=zaJ c ((qF yk _).mem_iff.mp h)
end Pw
namespace K52
open L2 Dd Pm Pg Pn Po Pr Pp Pt Pv Pw
theorem z8Z{G:List (Nat×List D)}{all:List D}{body:D->Ev->Sto->R Fl}(I:Nat->Ev->Sto->Prop)(og:∀k ρ s,I k ρ s->okG G all s):∀(xs:List D)(k:Nat),(∀j x,xs[j]? = some x->∀ ρ s,I (k+j) ρ s->∃ ρ' s',body x ρ s=.ok (.nx ρ') s'/\I (k+j+1) ρ' s')-> ∀ ρ s,I k ρ s->∃ ρ' s',wK G all body xs ρ s=.ok (.nx ρ') s'/\I (k+xs.length) ρ' s'
 | [],k,_,ρ,s,h=>⟨ρ,s,by simp[wK,og k ρ s h],h⟩ | x::xs,k,hb,ρ,s,h=>by
  obtain⟨ρ1,s1,e1,h1⟩:=hb 0 x (by simp) ρ s h;obtain⟨ρ2,s2,e2,h2⟩:=z8Z (all:=all) I og xs (k+1) (λj y hy ρ s hi=>by
   have e:k+1+j=k+(j+1):=by omega
   rw[e]at hi ⊢;exact hb (j+1) y (by simpa using hy) ρ s hi) ρ1 s1 h1;refine⟨ρ2,s2,by rw[wK,_g (og k ρ s h),e1,Rb];exact e2,?_⟩;have e:k+(x::xs).length=k+1+xs.length:=by simp;omega
  rw[e];exact h2
noncomputable abbrev E6(a0 a1 a2 a3 a4 a5:Option D):Ev:=[a0,a1,a2,a3,a4,a5]
theorem zem {n m:Nat} {a:List Int} (ha:a.length<=4) (hm:m<=30) {acc:List (List Int)} (hl:acc.length+(m+1)<=6561) (S:Sto) (a0 a2 a3:Option D): wB (E6 a0 (some (.int m)) a2 a3 (some (.loc S.length)) (some (rD a))) (S++[acc.map rD])=.ok (.nx (E6 a0 (some (.int m)) a2 a3 (some (.loc S.length)) (some (rD a)))) (S++[(acc++(Pt.rngI m).map λg=>a++[g]).map rD]):=by
 have c:=comp_map (s:=S++[acc.map rD]) (ρ:=E6 a0 (some (.int m)) a2 a3 (some (.loc S.length)) (some (rD a))) (fi:=z2l (za (eOp wT (zd 1) (eC (.int 1))) zi)) (mp:=[some 5,none]) (fg:=xK 1) (fe:=eOp wT (zd 0) (vA (za (zd 1) zi))) (λk:Nat=>D.int ((k:Nat):Int)) (λk=>rD (a++[((k:Nat):Int)])) (λk=>[some (rD a),some (.int ((k:Nat):Int))]) (List.range (m+1)) (uU (n:=m+1) (by omega) (by rw[zN,op2 (x:=.int m) (y:=.int 1) (vr rfl) rfl,kC,Rb,xk];simp)) (λk _=>rfl) (λk _=>by
   rw[op2 (x:=rD a) (y:=rD [(k:Int)]) (vr rfl) (by
    rw[z1K,zN,vr (d:=.int ((k:Nat):Int)) rfl,Rb,xk];simp[cap]),z5z,_g (by simp[cap];omega)];simp) (by simp[cap];omega);have ec:(List.range (m+1)).map (λk:Nat=>rD (a++[((k:Nat):Int)]))=((Pt.rngI m).map λg=>a++[g]).map rD:=by simp[Pt.rngI,_aO]
 have ln:((Pt.rngI m).map λg=>a++[g]).length=m+1:=by simp[Pt.rngI]
 have fl:=z0j ((Pt.rngI m).map λg=>a++[g]);rw[ec]at c;rw[_cG];have ln2:(((Pt.rngI m).map λg=>a++[g]).map rD).length=m+1:=by simpa using ln
 have ln3:(acc.map rD).length=acc.length:=by simp
 generalize ((Pt.rngI m).map λg=>a++[g]).map rD=Yy at *;generalize acc.map rD=X at *;generalize rD a=d at *;rw[wB,uB,zfl,vr (d:=.loc S.length) rfl,Rb];simp only;rw[c,Rb];simp only;have gt:(S++[X])[S.length]? = some X:=by simp
 rw[gt];simp only;rw[_g ⟨fl,by simp[cap];omega⟩,z2A];rfl
noncomputable abbrev E2(n m:Nat)(a2 a3 a4 a5:Option D):Ev:=E6 (some (.int n)) (some (.int m)) a2 a3 a4 a5
theorem zbJ {n m:Nat} (hm:m<=30) (hpw:(m+1) ^ n<=6561) (hn:Sz n) (s:Sto):zc1 s.length (xS [.int n,.int m] s)=.ok (.lst ((xR n m).map rD)) s:=by
 have st:zK ["_law_size","_law_number","_law_found","_law_place","_law_longer","_law_begun"] [.int n,.int m]=E2 n m none none none none:=rfl;have f1:vG (E2 n m none none none none) s=.ok (.nx (E2 n m (some (.lst [rD []])) none none none)) s:=by
  rw[vG,yO,z1Q,zN,z1K,xk];simp[cap]
 obtain⟨ρ',S',lp,fd,a3,a4,a5,hρ,h1,h2,h3⟩:=uD (all:=(List.range n).map λk:Nat=>D.int ((k:Nat):Int)) (body:=λx ρ s=>(xK 3 x ρ s).bind fun ρ' s'=>(zZ xH (zZ xI vN)) ρ' s') (λi ρ S'=>∃fd a3 a4 a5,ρ=E2 n m (some fd) a3 a4 a5/\S'.take s.length=s/\s.length<=S'.length/\((i=0/\fd=.lst [rD []])\/∃j,fd=.loc j/\j<S'.length/\S'[j]? = some ((xR i m).map rD)/\s.length<=j)) ((List.range n).map λk:Nat=>D.int ((k:Nat):Int)) 0 (by
   intro i x hx ρ S1 ⟨fd,a3,a4,a5,hρ,h1,h2,h3⟩;subst hρ;rw[_aj]at h3 ⊢;have hi:i<n:=by have:=(_b.mp hx).1;simpa using this
   have g3:xH (E2 n m (some fd) (some x) a4 a5) S1=.ok (.nx (E2 n m (some fd) (some x) (some (.loc S1.length)) a5)) (S1++[(z1o [] (Pt.rngI m)).map rD]):=by
    rw[xH,yO,zbk,xk,Rb,_g ⟨by simp,rfl⟩];rfl
   obtain⟨GG,hI,hG⟩:∃GG,(∀(T:Sto) (ρ:Ev),ρ[2]? = some (some fd)->xg (zd 2) ρ (S1++T)=.ok ((xR i m).map rD,GG) (S1++T))/\∀T:Sto,okG GG ((xR i m).map rD) (S1++T):=by
    rcases h3 with⟨rfl,rfl⟩ | ⟨j,rfl,hj,gj,_⟩;·exact⟨[],λT ρ hρ=>ut (by rw[vr hρ];rfl),λT p hp=>by simp at hp⟩
    ·have gT:∀T:Sto,(S1++T)[j]? = some ((xR i m).map rD):=λT=>by rw[_u hj];exact gj
     refine⟨[(j,(xR i m).map rD)],λT ρ hρ=>?_,λT p hp=>?_⟩
     ·rw[z2x,vr hρ,Rb];simp only[gT]
     ·simp only[_ao]at hp;subst hp;exact gT T
   have al:=z0i (n:=i) (m:=m);have gl:∀L:List (List Int),(z1o L (Pt.rngI m)).length=L.length*(m+1):=λL=>by
    unfold z1o;rw[List.length_flatMap];simp[Pt.rngI];induction L with
    | nil=>simp | cons a l ih=>simp[ih,Nat.add_mul,Nat.add_comm]
   have tot:(xR i m).length*(m+1)<=6561:=by
    have h5:(m+1) ^ i*(m+1)<=(m+1) ^ n:=by rw[<- Nat.pow_succ];exact _aL (by omega) (by omega)
    have:=Nat.mul_le_mul_right (m+1) al;have:=hpw;omega
   obtain⟨ρ2,S2,lp2,b5,hρ2,hS2⟩:=z8Z (G:=GG) (all:=(xR i m).map rD) (body:=λx ρ s=>(xK 5 x ρ s).bind fun ρ' s'=>wB ρ' s') (λk ρ S2=>∃b5,ρ=E2 n m (some fd) (some x) (some (.loc S1.length)) b5/\S2=S1++[(z1o ((xR i m).take k) (Pt.rngI m)).map rD]) (λk ρ S2 hk=>by
    obtain⟨b5,_,rfl⟩:=hk;exact hG _) ((xR i m).map rD) 0 (by
    intro k y hy ρ S2 ⟨b5,hρ,hS⟩;subst hρ hS;rw[_aj];rw[_R,_A]at hy;obtain⟨a,ha,rfl⟩:=hy;have hk:k<(xR i m).length:=(_b.mp ha).1;have la:=(wU.mp (_d ha)).1;have ts:(xR i m).take (k+1)=(xR i m).take k++[a]:=by rw[_df,ha];rfl
    have eg:z1o ((xR i m).take (k+1)) (Pt.rngI m)=z1o ((xR i m).take k) (Pt.rngI m)++(Pt.rngI m).map λg=>a++[g]:=by rw[ts];simp[z1o]
    have lk:(z1o ((xR i m).take k) (Pt.rngI m)).length+(m+1)<=6561:=by
     rw[gl,_ae,Nat.min_eq_left (by omega),<- Nat.succ_mul];exact _M (Nat.mul_le_mul_right _ hk) tot
    have t:=zem (n:=n) (a:=a) (by have:=hn;unfold Sz at this;omega) hm lk S1 (some (.int n)) (some fd) (some x);rw[<- eg]at t;refine⟨E2 n m (some fd) (some x) (some (.loc S1.length)) (some (rD a)),S1++[(z1o ((xR i m).take (k+1)) (Pt.rngI m)).map rD],?_,some (rD a),rfl,rfl⟩;rw[kS,Rb];exact t) (E2 n m (some fd) (some x) (some (.loc S1.length)) a5) (S1++[(z1o [] (Pt.rngI m)).map rD]) ⟨_,rfl,by simp⟩;rw[_aj,_o,_dr,<- z4v]at hS2;refine⟨E2 n m (some (.loc S1.length)) (some x) (some (.loc S1.length)) b5,S2,?_,_,_,_,_,rfl,?_,?_,.inr ⟨S1.length,rfl,by rw[hS2];simp,by rw[hS2];simp,h2⟩⟩
   ·have g4:xI (E2 n m (some fd) (some x) (some (.loc S1.length)) a5) (S1++[(z1o [] (Pt.rngI m)).map rD])=.ok (.nx ρ2) S2:=by
     rw[xI,qC,hI _ _ rfl,Rb];exact lp2
    show (zZ xH (zZ xI vN)) (E2 n m (some fd) (some x) a4 a5) S1=_;rw[zD g3,zD g4,hρ2];rfl
   ·rw[hS2,List.take_append_of_le_length h2,h1]
   ·rw[hS2];simp;omega) (E2 n m (some (.lst [rD []])) none none none) s ⟨_,_,_,_,rfl,by simp,by omega,.inl ⟨rfl,rfl⟩⟩;rw[_aj,_o,List.length_range]at h3;have n1:n≠0:=by unfold Sz at hn;omega
 obtain⟨j,rfl,hj,gj,hsj⟩:=h3.resolve_left λz=>n1 z.1;have f7:vM ρ' S'=.ok (.rt (.loc j)) S':=by rw[vM,wS,hρ,vr (d:=.loc j) rfl];rfl
 simp only[xS,z2H,Mof,jp,st,_s,_F,_N];rw[zD f1,zD (ρ':=ρ') (s':=S') (by
  rw[qT,qC,uU (n:=n) (s1:=s) (by unfold Sz at hn;omega) (by rw[zN,vr (d:=.int n) rfl,Rb,xk];rfl),Rb];exact lp),f7];simp only[z4G];rw[_j (by omega)];simp only[zc1,gj];rw[_g hsj,h1]
theorem zcG{x v:List Int}(s:Sto)(hx:∀i∈x,i.natAbs<2 ^ 16)(hv:∀i∈v,i.natAbs<2 ^ 16)(hl:x.length<=4):xT [rD x,rD v] s=.ok (.int (dot x v)) s:=by
 have h:xT=zE:=rfl;rw[h];exact ub s hx hv (by decide) (by decide) hl
noncomputable def gE(e:Int×List (List Int)):D:=.tup [.int e.1,.lst (e.2.map rD),.non]
theorem z5f(k:Int):∀g:Gd,yL k (g.map gE)=some ((g.find? λe=>decide (e.1=k)).map λe=>(e.2.map rD,true))
 | []=>rfl | e::g=>by
  simp only[_l,gE,yL];by_cases q:e.1=k;·rw[_g q];simp[q]
  ·rw[_j q,z5f k g];simp[q]
theorem zbb(k:Int)(x:List Int):∀g:Gd,k∈g.map (·.1)->z74 k (rD x) (g.map gE)=(z3m k x g).map gE
 | [],h=>by simp at h | e::g,h=>by
  simp only[_l,gE,z74];unfold z3m;by_cases q:e.1=k;·rw[_g q,_g q];simp[gE]
  ·rw[_j q,_j q];have h':k∈g.map (·.1):=by
    simp only[_l,_h]at h;exact h.resolve_left λz=>q z.symm
   rw[zbb k x g h'];rfl
theorem zaL(k:Int)(x:List Int):∀g:Gd,k∉g.map (·.1)->g.map gE++[.tup [.int k,.lst [rD x],.non]]=(z3m k x g).map gE
 | [],_=>by simp[z3m,gE] | e::g,h=>by
  simp only[_l,_h,not_or]at h;unfold z3m;rw[_j (λz=>h.1 z.symm),_l,_l,_X,zaL k x g h.2]
theorem z78:∀g:Gd,jR (g.map gE)=some (g.map (·.1))
 | []=>rfl | e::g=>by
  simp only[_l,gE,jR];rw[z78 g];rfl
theorem find_none{k:Int}{g:Gd}(h:k∉g.map (·.1)):g.find? (λe=>decide (e.1=k))=none:=by
 rw[List.find?_eq_none];intro e he z;exact h (_y.mpr ⟨e,he,_a3 z⟩)
theorem find_some:∀{g:Gd}{e:Int×List (List Int)},(g.map (·.1)).Nodup->e∈g->g.find? (λx=>decide (x.1=e.1))=some e
 | [],e,_,h=>by cases h | x::g,e,nd,h=>by
  simp only[_l,_a4]at nd;rcases _h.mp h with rfl | h;·simp
  ·have:¬ x.1=e.1:=λz=>nd.1 (by rw[z];exact _y.mpr ⟨e,h,rfl⟩);simp[this,find_some nd.2 h]
theorem z7Z(x:List Int):(rD x).flat=true:=by show D.flat.flats (iL x)=true;exact wZ x
theorem zhn {v:List Int} {P:List (List Int)} {g:Gd} {s:Sto} {ρ:Ev} {x:List Int} (G:GI v P g) (hP:P.length<=6561) (h2:ρ[2]? = some (some (.dlo s.length))) (h4:ρ[4]? = some (some (.int (dot x v)))) (h3:ρ[3]? = some (some (rD x))): z6T 2 4 3 ρ (s++[g.map gE])=.ok (.nx ρ) (s++[(z3m (dot x v) x g).map gE]):=by
 have gt:(s++[g.map gE])[s.length]? = some (g.map gE):=by simp
 have gl:g.length<=P.length:=by
  have sub:∀e∈g,∃y∈P,dot y v=e.1:=λe he=>by
   obtain⟨h1,h2⟩:=G.at_ e he;cases q:e.2 with
   | nil=>exact absurd q h2 | cons y t=>
    have:y∈e.2:=by rw[q];exact .head _
    rw[h1,_K]at this;exact⟨y,this.1,_a3 this.2⟩
  have:=_bt (l₁:=g.map (·.1)) (l₂:=P.map λy=>dot y v) G.nd (λk hk=>by
   obtain⟨e,he,rfl⟩:=_y.mp hk;obtain⟨y,hy,e'⟩:=sub e he;exact _y.mpr ⟨y,hy,e'⟩);simpa using this
 unfold z6T;simp only[h2,h3,h4,gt,z5f];by_cases hk:dot x v∈g.map (·.1)
 ·obtain⟨e,he,ek⟩:=_y.mp hk;have f:=find_some G.nd he;rw[ek]at f;rw[f];simp only[_a6];have el:e.2.length<=P.length:=by rw[(G.at_ e he).1];exact _bj _ _
  rw[_g ⟨z7Z x,by rw[_o];unfold cap;omega,by rw[_o];unfold cap;omega⟩,zbb _ _ _ hk,z2A]
 ·rw[find_none hk];simp only[Option.map_none];rw[_g ⟨z7Z x,by rw[_o];unfold cap;omega⟩,zaL _ _ _ hk,z2A]
theorem z8N{α:Type}{fi:FI}{mp:List (Option Nat)}{fg:FG}{ft:FT}{fe:FE}{ρ:Ev}{s s0:Sto}(g f:α->D)(p:α->Bool)(ev:α->Ev)(l:List α) (hi:fi ρ s=.ok (l.map g,[]) s0)(hg:∀a∈l,fg (g a) (zW mp ρ) s0=.ok (ev a) s0)(ht:∀a∈l,ft (ev a) s0=.ok (p a) s0)(he:∀a∈l,p a=true->fe (ev a) s0=.ok (f a) s0)(hl:l.length<=cap): zX fi mp fg ft fe ρ s=.ok (.lst ((l.filter p).map f)) s0:=by
 rw[jJ,kq,hi,Rb];rw[vX g f p l [] (by
  intro a ha;simp only[hg a ha,ht a ha,Rb];cases hp:p a with
  | true=>simp[he a ha hp] | false=>simp) (by simpa using hl)];rfl
noncomputable abbrev C5(a0 a1 a2 a3 a4:Option D):Ev:=[a0,a1,a2,a3,a4]
theorem zbQ{n m:Nat}{x:List Int}(hx:x∈xR n m)(hm:m<=8):∀i∈x,i.natAbs<2 ^ 16:=λi hi=>by have:=(wU.mp hx).2 i hi;omega
theorem zfs{n m:Nat}(hm:m<=8)(hn:n<=4):(m+1) ^ n<=6561:=_M (_cN (show m+1<=9 by omega) n) (_M (_aL (by omega) hn) (by decide))
theorem zcO(p:NQ):(dQ p).flat=true:=by
 unfold dQ;simp only[D.flat,D.flat.flats,wZ,_dl]
theorem z5H:∀L:List NQ,D.flat.flats (L.map dQ)=true
 | []=>rfl | p::L=>by simp only[_l,D.flat.flats,zcO,z5H L,_dl]
theorem zgm {v:List Int} {m:Nat} (hm:m<=8) (hn:Sz v.length) (hv:∀i∈v,i.natAbs<2 ^ 16) (dl dm:D) (hl:dl=rD v) (s:Sto): ∃a3 a4,wK [] ((xR v.length m).map rD) (λd ρ s=>(xK 3 d ρ s).bind fun ρ' s'=>(zZ yP yS) ρ' s') ((xR v.length m).map rD) (C5 (some dl) (some dm) (some (.dlo s.length)) none none) (s++[[]])=.ok (.nx (C5 (some dl) (some dm) (some (.dlo s.length)) a3 a4)) (s++[(z4q v (xR v.length m)).map gE]):=by
 have hB:(xR v.length m).length<=6561:=_M z0i (zfs hm (by unfold Sz at hn;omega));obtain⟨ρ',S',lp,a3,a4,h1,h2⟩:=uD (all:=(xR v.length m).map rD) (body:=λd ρ s=>(xK 3 d ρ s).bind fun ρ' s'=>(zZ yP yS) ρ' s') (λi ρ S'=>∃a3 a4,ρ=C5 (some dl) (some dm) (some (.dlo s.length)) a3 a4/\S'=s++[(z4q v ((xR v.length m).take i)).map gE]) ((xR v.length m).map rD) 0 (by
   intro i y hy ρ S1 ⟨a3,a4,hρ,hS⟩;subst hρ hS;rw[_aj];rw[_R,_A]at hy;obtain⟨x,hx,rfl⟩:=hy;have mx:=_d hx;have ts:(xR v.length m).take (i+1)=(xR v.length m).take i++[x]:=by rw[_df,hx];rfl
   have sm:=zcG (v:=v) (s++[(z4q v ((xR v.length m).take i)).map gE]) (zbQ mx hm) hv (by have:=(wU.mp mx).1;unfold Sz at hn;omega);rw[<- hl]at sm;have dc:=zhn (s:=s) (ρ:=C5 (some dl) (some dm) (some (.dlo s.length)) (some (rD x)) (some (.int (dot x v)))) (x:=x) (z0I v ((xR v.length m).take i)) (by rw[_ae];omega) rfl rfl rfl;rw[<- z7H,<- ts]at dc;generalize s++[(z4q v ((xR v.length m).take i)).map gE]=S1 at sm dc;refine⟨C5 (some dl) (some dm) (some (.dlo s.length)) (some (rD x)) (some (.int (dot x v))),s++[(z4q v ((xR v.length m).take (i+1))).map gE],?_,_,_,rfl,rfl⟩;rw[kS,Rb];show (zZ yP yS) (C5 (some dl) (some dm) (some (.dlo s.length)) (some (rD x)) a4) S1=_;rw[zD (ρ':=C5 (some dl) (some dm) (some (.dlo s.length)) (some (rD x)) (some (.int (dot x v)))) (s':=S1) (by rw[yP,yO,call2 (x:=rD x) (y:=dl) (vr rfl) (vr rfl),sm];rfl),yS,dc]) (C5 (some dl) (some dm) (some (.dlo s.length)) none none) (s++[[]]) ⟨none,none,rfl,rfl⟩;rw[_aj,_o,_dr]at h2;exact⟨a3,a4,by rw[lp,h1,h2]⟩
theorem zeh(ys:List D)(S:Sto):xL [.lst ys] S=.ok (.int ys.length) S:=by simp[xL,ye,Dd.listOf]
theorem z8t(ys:List D)(S:Sto):wn [.lst ys] S=.ok (.tup ys) S:=by simp[wn,ye,Dd.listOf]
theorem sl2(ys:List D)(S:Sto):dSl (.lst ys) none (some 2) S=.ok (.lst (ys.take 2)) S:=by
 have e:Dd.cutD ys none (some 2)=ys.take 2:=by
  have:=z2r ys 2 [];simp only[dSl]at this;injection this with h;injection h
 simp only[dSl,Dd.listOf,e]
theorem tGt {ρ:Ev} {S:Sto} {ys:List D} {f:FE} (h:f ρ S=.ok (.lst ys) S):tOf (eOp dGt (ze xL (za f zi)) (eC (.int 1))) ρ S=.ok (decide (1<ys.length)) S:=vL (by
 rw[op2 (x:=.int ys.length) (y:=.int 1) (by rw[xh h,zeh]) rfl,z9r];congr 2;exact decide_eq_decide.mpr (by omega))
theorem eTu{ρ:Ev}{S:Sto}{ys:List D}{f:FE}(h:f ρ S=.ok (.lst ys) S):ze wn (za (eSl f yo (vw (eC (.int 2)))) zi) ρ S=.ok (.tup (ys.take 2)) S:=by rw[xh (x:=.lst (ys.take 2)) (by
  rw[z4o,h,Rb,wH,Rb,ql,z94,Rb];exact sl2 ys S),z8t]
theorem take2{ys:List (List Int)}(h:1<ys.length):D.tup ((ys.map rD).take 2)=dQ (ys.getD 0 [],ys.getD 1 []):=by match ys,h with | a::b::t,_=>rfl
theorem z7w {v:List Int} {m:Nat} (hm:m<=8) (hn:Sz v.length) (hv:∀i∈v,i.natAbs<2 ^ 16) (s:Sto):yU [rD v,.int m] s=.ok (.lst ((zV yk (wL v m)).map dQ)) s:=by
 have ev:=zbJ (n:=v.length) (m:=m) (by omega) (zfs hm (by unfold Sz at hn;omega)) hn (s++[[]]);have hB:(xR v.length m).length<=6561:=_M z0i (zfs hm (by unfold Sz at hn;omega));have gl:∀S,xL [rD v] S=.ok (.int v.length) S:=λS=>by simp[xL,ye]
 have G:=z0I v (xR v.length m);have key:∀(d e:D),d=rD v->e=.int m->yU [d,e] s=.ok (.lst ((zV yk (wL v m)).map dQ)) s:=λd e hd he=>by
  obtain⟨a3,a4,lp⟩:=zgm hm hn hv d e hd s;have st:zK ["_law_lot","_law_number","_law_known","_law_one","_law_key"] [d,e]=C5 (some d) (some e) none none none:=rfl;have ne:z4q v (xR v.length m)≠[]:=λz=>by
   obtain⟨t,e⟩:=z4f m v.length;have:=G.al (List.replicate v.length 0) (by rw[e];exact .head _);rw[z]at this;simp at this
  have gl2:(z4q v (xR v.length m)).length<=6561:=by
   have:=_bt (l₁:=(z4q v (xR v.length m)).map (·.1)) (l₂:=(xR v.length m).map λy=>dot y v) G.nd (λk hk=>by
    obtain⟨e,he,rfl⟩:=_y.mp hk;obtain⟨h1,h2⟩:=G.at_ e he;cases q:e.2 with
    | nil=>exact absurd q h2 | cons y t=>
     have:y∈e.2:=by rw[q];exact .head _
     rw[h1,_K]at this;exact _y.mpr ⟨y,this.1,_a3 this.2⟩);simp only[_o]at this;omega
  have lC:wL v m=prs (z4q v (xR v.length m)):=rfl;generalize z4q v (xR v.length m)=g at G lp ne gl2 lC;have gt:(s++[g.map gE])[s.length]? = some (g.map gE):=by simp
  have ic:z1T (zd 2) (C5 (some d) (some e) (some (.dlo s.length)) a3 a4) (s++[g.map gE])=.ok (g.map (λe=>D.int e.1),[]) (s++[.non::g.map gE]):=by
   unfold z1T;rw[vr (d:=.dlo s.length) rfl,Rb];have kk:=z78 g;cases q:g with
   | nil=>exact absurd q ne | cons x t=>
    rw[q]at gt kk;simp only[gt];rw[_l]at kk ⊢;simp only[kk];rw[_aI,z2A];rfl
  have gf:∀a∈g,kT (zd 0) (zd 1) [some (.dlo s.length),some (.int a.1)] (s++[.non::g.map gE])=.ok (.lst (a.2.map rD)) (s++[.non::g.map gE]):=λa ha=>by
   unfold kT;rw[vr (d:=.dlo s.length) rfl,Rb,vr (d:=.int a.1) rfl,Rb];have z:z6X (s++[.non::g.map gE]) (.dlo s.length) (.int a.1)=some (a.2.map rD):=by
    unfold z6X;have:(s++[D.non::g.map gE])[s.length]? = some (D.non::g.map gE):=by simp
    simp only[this,z5f,find_some G.nd ha,_a6]
   rw[z]
  have cp:=z8N (fi:=z1T (zd 2)) (mp:=[some 2,none]) (fg:=xK 1) (ft:=tOf (eOp dGt (ze xL (za (kT (zd 0) (zd 1)) zi)) (eC (.int 1)))) (fe:=ze wn (za (eSl (kT (zd 0) (zd 1)) yo (vw (eC (.int 2)))) zi)) (ρ:=C5 (some d) (some e) (some (.dlo s.length)) a3 a4) (s:=s++[g.map gE]) (s0:=s++[.non::g.map gE]) (λe:Int×List (List Int)=>D.int e.1) (λe=>dQ (e.2.getD 0 [],e.2.getD 1 [])) (λe=>decide (1<e.2.length)) (λe=>[some (.dlo s.length),some (.int e.1)]) g ic (λa _=>rfl) (λa ha=>by rw[tGt (gf a ha),_o]) (λa ha hp=>by rw[eTu (gf a ha),take2 (_a3 hp)]) (by unfold cap;omega);have eL:((g.filter λe=>decide (1<e.2.length)).map λe=>dQ (e.2.getD 0 [],e.2.getD 1 []))=(wL v m).map dQ:=by rw[lC];unfold prs;rw[_aI];rfl
  rw[eL]at cp;have so:z3u [.lst ((wL v m).map dQ)] (s++[.non::g.map gE])=.ok (.lst ((zV yk (wL v m)).map dQ)) (s++[.non::g.map gE]):=by simp only[z3u,Dd.listOf,_ar,z2Z]
  have fl:(D.lst ((zV yk (wL v m)).map dQ)).flat=true:=by
   have:=z5H (zV yk (wL v m));generalize (zV yk (wL v m)).map dQ=X at this;exact this
  generalize (zV yk (wL v m)).map dQ=X at so fl;have ev':z7J (ze xS (za (ze xL (za (zd 0) zi)) (za (zd 1) zi))) (C5 (some d) (some e) (some (.dlo s.length)) none none) (s++[[]])=.ok (.lst ((xR v.length m).map rD)) (s++[[]]):=by
   rw[zby,call2 (x:=.int v.length) (y:=e) (by rw[xh (x:=d) (vr rfl),hd];exact gl _) (vr rfl),he];exact ev
  simp only[yU,z2H,Mof,qr,st,_s,_F,_N];rw[zD (ρ':=C5 (some d) (some e) (some (.dlo s.length)) none none) (s':=s++[[]]) (by rw[uI,yO];rfl), zD (ρ':=C5 (some d) (some e) (some (.dlo s.length)) a3 a4) (s':=s++[g.map gE]) (by rw[uN,qC,ut ev',Rb];exact lp),uK,wS,qw,zN,cp,Rb,xk,Rb,Rb,so];simp only[Rb];rw[ke fl,List.take_left'];rfl
 exact key _ _ rfl rfl
theorem zdl{t u:FT}{ρ:Ev}{s:Sto}(h:t ρ s=.ok true s):fOr t u ρ s=.ok true s:=by rw[zco,h];rfl
theorem zdg{t u:FT}{ρ:Ev}{s:Sto}{b:Bool}(h:t ρ s=.ok false s)(h2:u ρ s=.ok b s):fOr t u ρ s=.ok b s:=by rw[zco,h,Rb];exact h2
theorem z88{t:FT}{ρ:Ev}{s:Sto}{b:Bool}(h:t ρ s=.ok b s):jl t ρ s=.ok (!b) s:=by rw[zbu,h];rfl
theorem z9F{d:D}(h:(tyD d).isSome=true)(s:Sto):zI [d] s=.ok (.bl (isI d)) s:=by cases d<;>simp[tyD]at h<;>simp[zI,Mof,uL,zK,gIs,tyD,isT,isI]
noncomputable abbrev I4(a0 a1 a2 a3:Option D):Ev:=[a0,a1,a2,a3]
abbrev zaz:D->Ev->Sto->R Fl:=λd ρ s=>(xK 3 d ρ s).bind fun ρ' s'=>(zZ zO zP) ρ' s'
theorem zan{n:Nat}{x:D}(h:qA n x=true):∃u:List Int,x=rD u/\u.length=n:=by cases x with
 | tup ys=>
  simp only[qA,_p,_m]at h;obtain⟨v,rfl⟩:=all_ints h.2;exact⟨v,rfl,by simpa using h.1⟩ | _=>simp[qA]at h
theorem zgT {n m:Nat} {v:List Int} (hl:v.length=n) (hn:Sz n) {x:D} (hx:Kd x):∃b:Bool,(∀s,yf [rD v,.int m,x] s=.ok (.bl b) s)/\ (∀(t:D) a s,zaz x (I4 (some (rD v)) (some (.int m)) (some t) a) s=if b=true then .ok (.nx (I4 (some (rD v)) (some (.int m)) (some t) (some x))) s else .ok (.rt (.bl false)) s)/\ (b=true->∃u:List Int,x=rD u/\u.length=n/\∀i∈u,0<=i/\i<=(m:Int)):=by
 have n2:2<=n/\n<=4:=by unfold Sz at hn;omega
 have gl:∀s,xL [rD v] s=.ok (.int n) s:=λs=>by rw[<- hl];simp[xL,ye]
 have aw:=λs=>z2e (x:=x) (n:=n) hx (by omega) s;have pr:∀(d y:D) (k b:Bool) s,xL [d] s=.ok (.int n) s->zH [y,.int n] s=.ok (.bl k) s->(k=false->b=false)->(k=true->z2I (eOp dGe (ze jQ (za (zd 2) zi)) (eC (.int 0))) (eOp dLe (ze vp (za (zd 2) zi)) (zd 1)) [some d,some (.int m),some y] s=.ok (.bl b) s)->yf [d,.int m,y] s=.ok (.bl b) s:=λd y k b s h1 h2 h3 h4=>by
  have st:zK ["lot","number","thing"] [d,.int m,y]=[some d,some (.int m),some y]:=rfl;simp only[yf,Mof,kW,st,_s,_F,_N];rw[jL,wS,z1Z,call2 (x:=y) (y:=.int n) (vr rfl) (by rw[xh (x:=d) (vr rfl),h1]),h2,Rb];cases k with
  | true=>simp only[];rw[h4 rfl];rfl | false=>rw[h3 rfl];rfl
 have q4:∀(d t y:D) (k:Bool) s,xL [d] s=.ok (.int n) s->Kd y->k=qA n y->zO (I4 (some d) (some (.int m)) (some t) (some y)) s=if k=true then .ok (.nx (I4 (some d) (some (.int m)) (some t) (some y))) s else .ok (.rt (.bl false)) s:=λd t y k s h1 hy hk=>by
  have fin:∀b:Bool,(fOr (jl (tOf (eIs "tuple" (zd 3)))) (fOr (tOf (eOp dNe (ze xL (za (zd 3) zi)) (ze xL (za (zd 0) zi)))) (jl (tOf (ze z71 (za (zX (xg (zd 3)) [none] (xK 0) xJ (ze Pg.zI (za (zd 0) zi))) zi)))))) (I4 (some d) (some (.int m)) (some t) (some y)) s=.ok (!b) s->zO (I4 (some d) (some (.int m)) (some t) (some y)) s=if b=true then .ok (.nx (I4 (some d) (some (.int m)) (some t) (some y))) s else .ok (.rt (.bl false)) s:=λb h=>by cases b with
   | true=>rw[zO,z96 h];rfl | false=>rw[zO,z6o h];rfl
  have isb:∀b:Bool,gIs "tuple" y s=.ok (.bl b) s->jl (tOf (eIs "tuple" (zd 3))) (I4 (some d) (some (.int m)) (some t) (some y)) s=.ok (!b) s:=λb h=>z88 (vL (by rw[zeD,vr (d:=y) rfl,Rb,h]));subst hk;refine fin _ ?_;cases y with
  | tup ys=>
   refine zdg (isb true rfl) ?_;have lt:eOp dNe (ze xL (za (zd 3) zi)) (ze xL (za (zd 0) zi)) (I4 (some d) (some (.int m)) (some t) (some (.tup ys))) s=.ok (.bl (decide ((ys.length:Int)≠(n:Int)))) s:=by rw[op2 (x:=.int ys.length) (y:=.int n) (by rw[xh (x:=.tup ys) (vr rfl)];simp[xL,ye]) (by rw[xh (x:=d) (vr rfl),h1]),ze9]
   by_cases hy2:ys.length=n
   ·have z:decide ((ys.length:Int)≠(n:Int))=false:=by simp;omega
    rw[z]at lt;have c:=comp_map (fi:=xg (zd 3)) (mp:=[none]) (fg:=xK 0) (fe:=ze Pg.zI (za (zd 0) zi)) (ρ:=I4 (some d) (some (.int m)) (some t) (some (.tup ys))) (s:=s) (λx=>x) (λx=>D.bl (isI x)) (λx=>[some x]) ys (by rw[List.map_id'];exact jI (vr rfl)) (λa _=>rfl) (λa ha=>by rw[xh (x:=a) (vr rfl)];exact z9F (hy a ha) s) (by simp[cap];omega);refine zdg (vL lt) ?_;have:(!qA n (.tup ys))=!(ys.all isI):=by simp[qA,hy2]
    rw[this];exact z88 (vL (by rw[xh c];exact z5C ys isI s))
   ·have z:decide ((ys.length:Int)≠(n:Int))=true:=by simp;omega
    rw[z]at lt;have:(!qA n (.tup ys))=true:=by simp[qA,hy2]
    rw[this];exact zdl (vL lt) | scr _=>exact hy.elim | _=>
   have hd:=hy.ty;first
   | (exfalso;simp[tyD]at hd;done) | (exact zdl (isb false rfl))
 cases hk:qA n x with
 | false=>
  refine⟨false,λs=>?_,λt a s=>?_,λz=>by cases z⟩;·exact pr _ _ false false s (gl s) (by rw[aw s,hk]) (λ_=>rfl) λz=>by cases z
  ·show (zZ zO zP) (I4 (some (rD v)) (some (.int m)) (some t) (some x)) s=_;have:=q4 (rD v) t x false s (gl s) hx hk.symm;rw[z4b (s':=s) (d:=.bl false) this];rfl | true=>
  obtain⟨u,rfl,ul⟩:=zan hk;have un:u≠[]:=λz=>by rw[z]at ul;simp at ul;omega
  have mn:=λs=>zaX (ns:=u) s un;have mx:=λs=>z8b (ns:=u) s un;have aws:=aw;have two:∀(d y:D) s,jQ [y] s=.ok (.int (minL u)) s->vp [y] s=.ok (.int (maxL u)) s->z2I (eOp dGe (ze jQ (za (zd 2) zi)) (eC (.int 0))) (eOp dLe (ze vp (za (zd 2) zi)) (zd 1)) [some d,some (.int m),some y] s=.ok (.bl (decide (0<=minL u)&&decide (maxL u<=(m:Int)))) s:=λd y s h1 h2=>by
   rw[z1Z,op2 (x:=.int (minL u)) (y:=.int 0) (by rw[xh (x:=y) (vr rfl),h1]) rfl,zg2,Rb];by_cases z:0<=minL u
   ·rw[_aa z];simp only[_aG];rw[op2 (x:=.int (maxL u)) (y:=.int m) (by rw[xh (x:=y) (vr rfl),h2]) (vr rfl),zgc]
   ·rw[_O z];rfl
  have q6:∀(d t y:D) s,jQ [y] s=.ok (.int (minL u)) s->vp [y] s=.ok (.int (maxL u)) s->zP (I4 (some d) (some (.int m)) (some t) (some y)) s=if (decide (0<=minL u)&&decide (maxL u<=(m:Int)))=true then .ok (.nx (I4 (some d) (some (.int m)) (some t) (some y))) s else .ok (.rt (.bl false)) s:=λd t y s h1 h2=>by
   have l1:tOf (eOp dLt (ze jQ (za (zd 3) zi)) (eC (.int 0))) (I4 (some d) (some (.int m)) (some t) (some y)) s=.ok (decide (minL u<0)) s:=vL (by rw[op2 (x:=.int (minL u)) (y:=.int 0) (by rw[xh (x:=y) (vr rfl),h1]) rfl,zfP]);have l2:tOf (eOp dGt (ze vp (za (zd 3) zi)) (zd 1)) (I4 (some d) (some (.int m)) (some t) (some y)) s=.ok (decide (maxL u > (m:Int))) s:=vL (by rw[op2 (x:=.int (maxL u)) (y:=.int m) (by rw[xh (x:=y) (vr rfl),h2]) (vr rfl),z9r]);by_cases z:0<=minL u
   ·rw[_O (by omega)]at l1;by_cases z2:maxL u<=(m:Int)
    ·rw[_O (by omega)]at l2;rw[zP,z96 (zau l1 l2),_aa z,_aa z2];rfl
    ·rw[_aa (by omega)]at l2;rw[zP,z6o (zdg l1 l2),_O z2,Bool.and_false];rfl
   ·rw[_aa (by omega)]at l1;rw[zP,z6o (zdl l1),_O z];rfl
  refine⟨decide (0<=minL u)&&decide (maxL u<=(m:Int)),λs=>?_,λt a s=>?_,λz=>⟨u,rfl,ul,λi hi=>?_⟩⟩;·exact pr _ _ true _ s (gl s) (by rw[aw s,hk]) (λz=>by cases z) λ_=>two _ _ s (mn s) (mx s)
  ·show (zZ zO zP) (I4 (some (rD v)) (some (.int m)) (some t) (some (rD u))) s=_;have e4:=q4 (rD v) t (rD u) true s (gl s) hx hk.symm;rw[_g rfl]at e4;rw[zD e4,q6 _ _ _ s (mn s) (mx s)]
  ·rw[_p,_m,_m]at z;have:=minL_le i hi;have:=maxL_ge i hi;omega
theorem zbA {n m w:Nat} {v:List Int} (W:LW n v w) (h1:1<=m) (h8:m<=8) {d:D} (hd:Tn 16 d):∃b:Bool,∀s,xz [rD v,.int m,d] s=.ok (.bl b) s/\zS [rD v,.int m,d] s=.ok (.bl b) s:=by
 have hl:v.length=n:=W.L.len;have hn:Sz n:=by have:=W.L.lo;have:=W.L.hi;unfold Sz;omega
 have wo:=λs=>W.often h1 h8 s;have vb:∀i∈v,i.natAbs<2 ^ 16:=λi hi=>by have:=W.L.bd i hi;omega
 have no:∀(e:D),(∀s,fOr (jl (tOf (eIs "tuple" (zd 2)))) (tOf (eOp dNe (ze xL (za (zd 2) zi)) (eC (.int 2)))) [some (rD v),some (.int m),some e,none,none] s=.ok true s/\fOr (jl (tOf (eIs "tuple" (zd 2)))) (tOf (eOp dNe (ze xL (za (zd 2) zi)) (eC (.int 2)))) (I4 (some (rD v)) (some (.int m)) (some e) none) s=.ok true s)->∃b:Bool,∀s,xz [rD v,.int m,e] s=.ok (.bl b) s/\zS [rD v,.int m,e] s=.ok (.bl b) s:=λe h=>by
  refine⟨false,λs=>⟨?_,?_⟩⟩
  ·have key:∀dv:D,zh [dv,.int m] s=.ok .non s->fOr (jl (tOf (eIs "tuple" (zd 2)))) (tOf (eOp dNe (ze xL (za (zd 2) zi)) (eC (.int 2)))) [some dv,some (.int m),some e,none,none] s=.ok true s->xz [dv,.int m,e] s=.ok (.bl false) s:=λdv e1 e2=>by
    have st:zK ["lot","number","thing","one","other"] [dv,.int m,e]=[some dv,some (.int m),some e,none,none]:=rfl;simp only[xz,Mof,qZ,st,_s,_F,_N];rw[zD (ρ':=[some dv,some (.int m),some e,none,none]) (s':=s) (by rw[qc,uB,call2 (x:=dv) (y:=.int m) (vr rfl) (vr rfl),e1];rfl),z4b (s':=s) (d:=.bl false) (by rw[qe,z6o e2];rfl)]
   exact key _ (wo s) (h s).1
  ·have key:∀dv:D,fOr (jl (tOf (eIs "tuple" (zd 2)))) (tOf (eOp dNe (ze xL (za (zd 2) zi)) (eC (.int 2)))) (I4 (some dv) (some (.int m)) (some e) none) s=.ok true s->zS [dv,.int m,e] s=.ok (.bl false) s:=λdv e2=>by
    have st:zK ["_law_lot","_law_number","_law_thing","_law_one"] [dv,.int m,e]=I4 (some dv) (some (.int m)) (some e) none:=rfl;simp only[zS,Mof,wP,st,_s,_F,_N];rw[z4b (s':=s) (d:=.bl false) (by rw[wu,z6o e2];rfl)]
   exact key _ (h s).2
 have isn:∀{e:D} {ρ:Ev} {s:Sto} (b:Bool),ρ[2]? = some (some e)->gIs "tuple" e s=.ok (.bl b) s->jl (tOf (eIs "tuple" (zd 2))) ρ s=.ok (!b) s:=λ{e ρ s} b hρ h=>z88 (vL (by rw[zeD,vr hρ,Rb,h]));have lnn:∀{xs:List D} {ρ:Ev} {s:Sto},ρ[2]? = some (some (.tup xs))->tOf (eOp dNe (ze xL (za (zd 2) zi)) (eC (.int 2))) ρ s=.ok (decide (xs.length≠2)) s:=λ{xs ρ s} hρ=>vL (by
  rw[op2 (x:=.int xs.length) (y:=.int 2) (by rw[xh (x:=.tup xs) (vr hρ)];simp[xL,ye]) rfl,ze9];congr 2;exact decide_eq_decide.mpr (by omega));cases d with
 | tup xs=>
  by_cases l2:xs.length=2;·match xs,l2 with
   | [x,y],_=>
    have bx:=hd.it _ rfl x (by simp);have by_:=hd.it _ rfl y (by simp);obtain⟨p,p1,p2,p3⟩:=zgT (m:=m) hl hn bx.kd;obtain⟨q,q1,q2,q3⟩:=zgT (m:=m) hl hn by_.kd;have l2t:∀{ρ:Ev} {s:Sto},ρ[2]? = some (some (.tup [x,y]))->fOr (jl (tOf (eIs "tuple" (zd 2)))) (tOf (eOp dNe (ze xL (za (zd 2) zi)) (eC (.int 2)))) ρ s=.ok false s:=λ{ρ s} hρ=>zau (isn true hρ rfl) (by rw[lnn hρ];rfl);have pg:∀(dv:D) s (b:Bool),zh [dv,.int m] s=.ok .non s->yf [dv,.int m,x] s=.ok (.bl p) s->yf [dv,.int m,y] s=.ok (.bl q) s->(p&&q)=false/\b=false\/(p&&q)=true/\uT [some dv,some (.int m),some (.tup [x,y]),some x,some y] s=.ok (.rt (.bl b)) s->xz [dv,.int m,.tup [x,y]] s=.ok (.bl b) s:=λdv s b e1 e2 e3 e4=>by
     have st:zK ["lot","number","thing","one","other"] [dv,.int m,.tup [x,y]]=[some dv,some (.int m),some (.tup [x,y]),none,none]:=rfl;simp only[xz,Mof,qZ,st,_s,_F,_N];rw[zD (ρ':=[some dv,some (.int m),some (.tup [x,y]),none,none]) (s':=s) (by rw[qc,uB,call2 (x:=dv) (y:=.int m) (vr rfl) (vr rfl),e1];rfl), zD (ρ':=[some dv,some (.int m),some (.tup [x,y]),none,none]) (s':=s) (by rw[qe,z96 (l2t rfl)];rfl), zD (ρ':=[some dv,some (.int m),some (.tup [x,y]),some x,some y]) (s':=s) (by rw[kO];rfl)];have t1:jl (tOf (ze yf (za (zd 0) (za (zd 1) (za (zd 3) zi))))) [some dv,some (.int m),some (.tup [x,y]),some x,some y] s=.ok (!p) s:=z88 (vL (by rw[z2Y (x:=dv) (y:=.int m) (z:=x) (vr rfl) (vr rfl) (vr rfl),e2]));have t2:jl (tOf (ze yf (za (zd 0) (za (zd 1) (za (zd 4) zi))))) [some dv,some (.int m),some (.tup [x,y]),some x,some y] s=.ok (!q) s:=z88 (vL (by rw[z2Y (x:=dv) (y:=.int m) (z:=y) (vr rfl) (vr rfl) (vr rfl),e3]));rcases e4 with⟨e4,rfl⟩ | ⟨e4,e5⟩;·rw[z4b (s':=s) (d:=.bl false) (by
       rw[uX,z6o (by cases p with
        | false=>exact zdl t1 | true=>cases q with
         | false=>exact zdg t1 t2 | true=>cases e4)];rfl)]
     ·rw[_p]at e4;rw[e4.1]at t1;rw[e4.2]at t2;rw[zD (ρ':=[some dv,some (.int m),some (.tup [x,y]),some x,some y]) (s':=s) (by rw[uX,z96 (zau t1 t2)];rfl),e5]
    have lw:∀(dv:D) s (b:Bool),(∀(t:D) a s,zaz x (I4 (some dv) (some (.int m)) (some t) a) s=if p=true then .ok (.nx (I4 (some dv) (some (.int m)) (some t) (some x))) s else .ok (.rt (.bl false)) s)->(∀(t:D) a s,zaz y (I4 (some dv) (some (.int m)) (some t) a) s=if q=true then .ok (.nx (I4 (some dv) (some (.int m)) (some t) (some y))) s else .ok (.rt (.bl false)) s)->(p&&q)=false/\b=false\/(p&&q)=true/\ww (I4 (some dv) (some (.int m)) (some (.tup [x,y])) (some y)) s=.ok (.rt (.bl b)) s->zS [dv,.int m,.tup [x,y]] s=.ok (.bl b) s:=λdv s b e2 e3 e4=>by
     have st:zK ["_law_lot","_law_number","_law_thing","_law_one"] [dv,.int m,.tup [x,y]]=I4 (some dv) (some (.int m)) (some (.tup [x,y])) none:=rfl;simp only[zS,Mof,wP,st,_s,_F,_N];rw[zD (ρ':=I4 (some dv) (some (.int m)) (some (.tup [x,y])) none) (s':=s) (by rw[wu,z96 (l2t rfl)];rfl)];have lp:wy (I4 (some dv) (some (.int m)) (some (.tup [x,y])) none) s=if (p&&q)=true then .ok (.nx (I4 (some dv) (some (.int m)) (some (.tup [x,y])) (some y))) s else .ok (.rt (.bl false)) s:=by
      rw[wy,qC,jI (vr rfl),Rb];show wK [] [x,y] zaz [x,y] _ s=_;have g2:=e2 (.tup [x,y]) none s;have g3:=e3 (.tup [x,y]) (some x) s;cases p with
      | false=>simp[wK,okG,g2] | true=> cases q with
       | false=>simp[wK,okG,g2,g3] | true=>simp[wK,okG,g2,g3]
     rcases e4 with⟨e4,rfl⟩ | ⟨e4,e5⟩
     ·rw[e4]at lp;rw[z4b (s':=s) (d:=.bl false) lp]
     ·rw[e4,_g rfl]at lp;rw[zD lp,e5]
    cases hpq:p&&q with
    | false=>exact⟨false,λs=>⟨pg _ s false (wo s) (p1 s) (q1 s) (.inl ⟨hpq,rfl⟩),lw _ s false p2 q2 (.inl ⟨hpq,rfl⟩)⟩⟩ | true=>
     rw[_p]at hpq;obtain⟨a,rfl,al,ab⟩:=p3 hpq.1;obtain⟨c,rfl,cl,cb⟩:=q3 hpq.2;have ai:∀i∈a,i.natAbs<2 ^ 16:=λi hi=>by have:=ab i hi;omega
     have ci:∀i∈c,i.natAbs<2 ^ 16:=λi hi=>by have:=cb i hi;omega
     have n4:n<=4:=by unfold Sz at hn;omega
     have lt:∀s,z9q (rD a) (rD c) s=.ok (.bl (lexN a c)) s:=λs=>by
      simp only[z9q];rw[show intsOf (iL a)=some a from xx _,show intsOf (iL c)=some c from xx _];simp only[];rw[z2V]
     refine⟨lexN a c&&decide (dot a v=dot c v),λs=>⟨?_,?_⟩⟩
     ·refine pg _ s _ (wo s) (p1 s) (q1 s) (.inr ⟨by rw[hpq.1,hpq.2];rfl,?_⟩);have ta:=ub s ai vb (by decide) (by decide) (by omega);have tc:=ub s ci vb (by decide) (by decide) (by omega);have lts:=lt s;generalize (D.tup [rD a,rD c])=T;change zE [rD a,rD v] s=_ at ta;change zE [rD c,rD v] s=_ at tc;generalize rD a=da at *;generalize rD c=dc at *;generalize rD v=dv at *;rw[uT,wS,z1Z,op2 (x:=da) (y:=dc) (vr rfl) (vr rfl),lts,Rb];cases lexN a c with
      | false=>rfl | true=>
       simp only[_aG];rw[op2 (x:=.int (dot a v)) (y:=.int (dot c v)) (by rw[call2 (x:=da) (y:=dv) (vr rfl) (vr rfl),ta]) (by rw[call2 (x:=dc) (y:=dv) (vr rfl) (vr rfl),tc]),z7U];rfl
     ·refine lw _ s _ p2 q2 (.inr ⟨by rw[hpq.1,hpq.2];rfl,?_⟩);have ta:=zcG (v:=v) s ai vb (by omega);have tc:=zcG (v:=v) s ci vb (by omega);have lts:=lt s;generalize rD a=da at *;generalize rD c=dc at *;generalize rD v=dv at *;have i0:eOp dIx (zd 2) (eC (.int 0)) (I4 (some dv) (some (.int m)) (some (.tup [da,dc])) (some dc)) s=.ok da s:=by rw[op2 (x:=.tup [da,dc]) (y:=.int 0) (vr rfl) rfl];rfl
      have i1:eOp dIx (zd 2) (eC (.int 1)) (I4 (some dv) (some (.int m)) (some (.tup [da,dc])) (some dc)) s=.ok dc s:=by rw[op2 (x:=.tup [da,dc]) (y:=.int 1) (vr rfl) rfl];rfl
      rw[ww,wS,z1Z,op2 i0 i1,lts,Rb];cases lexN a c with
      | false=>rfl | true=>
       simp only[_aG];rw[op2 (x:=.int (dot a v)) (y:=.int (dot c v)) (by rw[call2 i0 (vr rfl),ta]) (by rw[call2 i1 (vr rfl),tc]),z7U];rfl
  ·exact no _ λs=>⟨zdg (isn true rfl rfl) (by rw[lnn rfl,_aa l2]),zdg (isn true rfl rfl) (by rw[lnn rfl,_aa l2])⟩ | _=>
  have ht:=hd.ty;first
  | (exfalso;simp[tyD]at ht;done) | exact no _ λs=>⟨zdl (isn false rfl rfl),zdl (isn false rfl rfl)⟩
theorem zcY {xs:List D} {k i:Nat} (hl:xs.length=k) (hk:1<=k) (hk2:k<=100) {f:FE} {ρ:Ev} {s:Sto} {l:Nat} (hp:Pot s l) (hf:f ρ s=.ok (.lst xs) s) (h2:ρ[i]? = some (some (.loc l))): ∃d s',eOp dIx f (ze Pg.zk (za (zd i) (za (eC (.int k)) zi))) ρ s=.ok d s'/\d∈xs/\yQ s s' l:=by
 obtain⟨x,s',e,a,b,dr⟩:=qp (f:=zd i) (g:=eC (.int k)) (far:=(k:Int)) (ρ:=ρ) hp (by omega) (z1A (by omega)) (vr h2) (by simp);have hx:x.toNat<xs.length:=by omega
 refine⟨xs[x.toNat],s',?_,_a9 hx,dr⟩;rw[z3d,hf,Rb,e,Rb];exact zaU a (_n hx)
noncomputable abbrev B11(a0 a1 a2 a3 a4 a5 a6 a7 a8 a9 a10:Option D):Ev:=[a0,a1,a2,a3,a4,a5,a6,a7,a8,a9,a10]
def okO(d:D):Prop:=(tyD d).isSome=true/\∀i,d=.int i->i.natAbs<2 ^ 16
theorem zaD{ds:List D}{ar:FA}{ρ:Ev}{s:Sto}(h:ar ρ s=.ok ds s)(hl:ds.length<=100):z04 ar ρ s=.ok (.lst ds) s:=by rw[z1Q,h,Rb,_g (by unfold cap;omega)]
theorem zY{f:FE}{ar:FA}{ρ:Ev}{s:Sto}{d:D}{ds:List D}(h:f ρ s=.ok d s)(h2:ar ρ s=.ok ds s):za f ar ρ s=.ok (d::ds) s:=by rw[zN,h,Rb,h2,Rb]
theorem z1s{ρ:Ev}{s:Sto}:zi ρ s=.ok [] s:=rfl
theorem z6f{ds:List D}{ar:FA}{ρ:Ev}{s:Sto}(h:ar ρ s=.ok ds s)(hl:ds.length<=100):vA ar ρ s=.ok (.tup ds) s:=by rw[z1K,h,Rb,_g (by unfold cap;omega)]
theorem zfu{xs ys:List D}{s:Sto}(h:xs.length+ys.length<=100):wT (.tup xs) (.tup ys) s=.ok (.tup (xs++ys)) s:=by rw[z5z,_g (by unfold cap;omega)]
theorem zdk{m:Nat}{a b:D}(ha:Bn m a)(hb:Bn m b):∀x∈[a,b],Bn m x:=λx hx=>(_h.mp hx).elim (λe=>e ▸ ha) λh=>by rw[_ao.mp h];exact hb
theorem zbs {n m l:Nat} {a c:List Int} {s:Sto} (hp:Pot s l) (hn:Sz n) (al:a.length=n) (cl:c.length=n) (ab:∀i∈a,i.natAbs<2 ^ 10) (cb:∀i∈c,i.natAbs<2 ^ 10) (hm:m<=8): ∃d s',yH [.loc l,dQ (a,c),.int m] s=.ok d s'/\Tn 16 d/\yQ s s' l:=by
 have n4:2<=n/\n<=4:=by unfold Sz at hn;omega
 have st:zK ["_law_pot_here","_law_pair","_law_number","_law_which","_law_at","_law_one","_law_odd","_law_other","_law_some","_law_new","_law_more"] [.loc l,dQ (a,c),.int m]=B11 (some (.loc l)) (some (dQ (a,c))) (some (.int m)) none none none none none none none none:=rfl;have fin:∀d s',qi (B11 (some (.loc l)) (some (dQ (a,c))) (some (.int m)) none none none none none none none none) s=.ok (.rt d) s'->yH [.loc l,dQ (a,c),.int m] s=.ok d s':=λd s' h=>by
  simp only[yH,Mof,st,_s,_F,_N];rw[h]
 have pd:dQ (a,c)=.tup [rD a,rD c]:=rfl;rw[pd]at fin ⊢;have glA:∀s,xL [rD a] s=.ok (.int n) s:=λs=>by rw[<- al];simp[xL,ye]
 have bA:Bn 16 (rD a):=Bn.row λx hx=>by have:=ab x hx;omega
 have bC:Bn 16 (rD c):=Bn.row λx hx=>by have:=cb x hx;omega
 have one:∀w:Int,0<=w->w<2->∃o:List Int,(∀s,dIx (.tup [rD a,rD c]) (.int w) s=.ok (rD o) s)/\o.length=n/\(∀i∈o,i.natAbs<2 ^ 10)/\(rD o=rD a\/rD o=rD c):=λw w0 w1=>by
  rcases (by omega:w=0\/w=1) with rfl | rfl;·exact⟨a,λs=>rfl,al,ab,.inl rfl⟩
  ·exact⟨c,λs=>rfl,cl,cb,.inr rfl⟩
 generalize rD a=da at *;generalize rD c=dc at *;obtain⟨w,s1,e1,w0,w2,d1⟩:=qp (f:=zd 0) (g:=eC (.int 2)) (far:=2) (ρ:=B11 (some (.loc l)) (some (.tup [da,dc])) (some (.int m)) none none none none none none none none) hp (by decide) (z1A (by decide)) (vr rfl) rfl;obtain⟨kk,s2,e2,k0,k1,d2⟩:=qp (f:=zd 0) (g:=ze xL (za (eOp dIx (zd 1) (eC (.int 0))) zi)) (far:=(n:Int)) (ρ:=B11 (some (.loc l)) (some (.tup [da,dc])) (some (.int m)) none none none none none none none none) d1.pot (by omega) (z1A (by omega)) (vr rfl) (by rw[xh (x:=da) (by rw[op2 (x:=.tup [da,dc]) (y:=.int 0) (vr rfl) rfl];rfl),glA]);obtain⟨k,rfl⟩:=_au k0;have kn:k<n:=by omega
 obtain⟨o,ho,ol,ob,oo⟩:=one w w0 w2;have f1:ux (B11 (some (.loc l)) (some (.tup [da,dc])) (some (.int m)) none none none none none none none none) s=.ok (.nx (B11 (some (.loc l)) (some (.tup [da,dc])) (some (.int m)) (some (.int w)) (some (.int k)) none none none none none none)) s2:=by
  rw[ux,zaK,zN,e1,Rb,zN,e2];rfl
 have f2:uG (B11 (some (.loc l)) (some (.tup [da,dc])) (some (.int m)) (some (.int w)) (some (.int k)) none none none none none none) s2=.ok (.nx (B11 (some (.loc l)) (some (.tup [da,dc])) (some (.int m)) (some (.int w)) (some (.int k)) (some (rD o)) none none none none none)) s2:=by rw[uG,yO,op2 (x:=.tup [da,dc]) (y:=.int w) (vr rfl) (vr rfl),ho];rfl
 have ho':k<o.length:=by omega
 have ik:∀s,dIx (rD o) (.int k) s=.ok (.int o[k]) s:=λs=>by
  have e:ixN (iL o).length (k:Int)=some k:=by
   unfold ixN;rw[_g (by omega),_g (by simp;omega)];simp
  simp only[dIx,ye,atI,e,_ar];simp[ho']
 have sk:∀S,dSl (rD o) none (some (k:Int)) S=.ok (rD (o.take k)) S:=λS=>by rw[z2r];simp[rD,List.map_take]
 have sd:∀(j:Nat) S,dSl (rD o) (some ((j:Int)+1)) none S=.ok (rD (o.drop (j+1))) S:=λj S=>by
  have:=z8H (iL o) (j+1) S;rw[show ((j+1:Nat):Int)=(j:Int)+1 by omega]at this;rw[this];simp[rD,List.map_drop]
 have okk:=ob o[k] (_a9 ho');have bO:Bn 16 (rD o):=Bn.row λx hx=>by have:=ob x hx;omega
 have btk:∀x∈o.take k,x.natAbs<2 ^ 10:=λx hx=>ob x (_W hx);have bdk:∀j,∀x∈o.drop j,x.natAbs<2 ^ 10:=λj x hx=>ob x (_bH hx);have ltk:(o.take k).length<=4:=by rw[_ae];omega
 have ldk:∀j,(o.drop j).length<=4:=λj=>by rw[_bp];omega
 generalize hE:B11 (some (.loc l)) (some (.tup [da,dc])) (some (.int m)) (some (.int w)) (some (.int k))=EV at *;have v0:∀b5 b6 b7 b8 b9 b10,(EV b5 b6 b7 b8 b9 b10)[0]? = some (some (.loc l)):=by subst hE;intros;rfl
 have v1:∀b5 b6 b7 b8 b9 b10,(EV b5 b6 b7 b8 b9 b10)[1]? = some (some (.tup [da,dc])):=by subst hE;intros;rfl
 have v2:∀b5 b6 b7 b8 b9 b10,(EV b5 b6 b7 b8 b9 b10)[2]? = some (some (.int m)):=by subst hE;intros;rfl
 have v3:∀b5 b6 b7 b8 b9 b10,(EV b5 b6 b7 b8 b9 b10)[3]? = some (some (.int w)):=by subst hE;intros;rfl
 have v4:∀b5 b6 b7 b8 b9 b10,(EV b5 b6 b7 b8 b9 b10)[4]? = some (some (.int k)):=by subst hE;intros;rfl
 have v5:∀b5 b6 b7 b8 b9 b10,(EV b5 b6 b7 b8 b9 b10)[5]? = some b5:=by subst hE;intros;rfl
 have v6:∀b5 b6 b7 b8 b9 b10,(EV b5 b6 b7 b8 b9 b10)[6]? = some b6:=by subst hE;intros;rfl
 have v7:∀b5 b6 b7 b8 b9 b10,(EV b5 b6 b7 b8 b9 b10)[7]? = some b7:=by subst hE;intros;rfl
 have v8:∀b5 b6 b7 b8 b9 b10,(EV b5 b6 b7 b8 b9 b10)[8]? = some b8:=by subst hE;intros;rfl
 have v9:∀b5 b6 b7 b8 b9 b10,(EV b5 b6 b7 b8 b9 b10)[9]? = some b9:=by subst hE;intros;rfl
 have v10:∀b5 b6 b7 b8 b9 b10,(EV b5 b6 b7 b8 b9 b10)[10]? = some b10:=by subst hE;intros;rfl
 have t6:∀b5 b6 b7 b8 b9 b10 x,(EV b5 b6 b7 b8 b9 b10).set 6 x=EV b5 x b7 b8 b9 b10:=by subst hE;intros;rfl
 have t7:∀b5 b6 b7 b8 b9 b10 x,(EV b5 b6 b7 b8 b9 b10).set 7 x=EV b5 b6 x b8 b9 b10:=by subst hE;intros;rfl
 have t8:∀b5 b6 b7 b8 b9 b10 x,(EV b5 b6 b7 b8 b9 b10).set 8 x=EV b5 b6 b7 x b9 b10:=by subst hE;intros;rfl
 have t9:∀b5 b6 b7 b8 b9 b10 x,(EV b5 b6 b7 b8 b9 b10).set 9 x=EV b5 b6 b7 b8 x b10:=by subst hE;intros;rfl
 have t10:∀b5 b6 b7 b8 b9 b10 x,(EV b5 b6 b7 b8 b9 b10).set 10 x=EV b5 b6 b7 b8 b9 x:=by subst hE;intros;rfl
 clear hE;have l3:z04 (za (eOp wT (eOp dIx (zd 5) (zd 4)) (eC (.int 1))) (za (eOp zaM (eOp dIx (zd 5) (zd 4)) (eC (.int 1))) (za (eOp wT (zd 2) (eC (.int 1))) (za (z5c (eC (.int 1))) (za (eC (.bl true)) (za (eC .non) (za (eC (.str "1")) (za (vA (za (eC (.int 1)) zi)) (za (eC (.int 0)) zi))))))))) (EV (some (rD o)) none none none none none) s2=.ok (.lst [.int (o[k]+1),.int (o[k]-1),.int ((m:Int)+1),.int (-1),.bl true,.non,.str "1",.tup [.int 1],.int 0]) s2:=by
  have i5:eOp dIx (zd 5) (zd 4) (EV (some (rD o)) none none none none none) s2=.ok (.int o[k]) s2:=by rw[op2 (x:=rD o) (y:=.int k) (vr (v5 ..)) (vr (v4 ..)),ik]
  refine zaD (zY ?_ (zY ?_ (zY ?_ (zY rfl (zY rfl (zY rfl (zY rfl (zY (z6f (zY rfl z1s) (by decide)) (zY rfl z1s))))))))) (by simp);·rw[op2 (y:=.int 1) i5 rfl,kC]
  ·rw[op2 (y:=.int 1) i5 rfl,zaE]
  ·rw[op2 (x:=.int m) (y:=.int 1) (vr (v2 ..)) rfl,kC]
 obtain⟨od,s3,e3,m3,d3⟩:=zcY (i:=0) (k:=9) rfl (by decide) (by decide) d2.pot l3 (v0 ..);have oko:okO od:=by
  simp only[_h,_Z,_bs]at m3;rcases m3 with rfl | rfl | rfl | rfl | rfl | rfl | rfl | rfl | rfl;·exact⟨rfl,λi e=>by cases e;omega⟩
  ·exact⟨rfl,λi e=>by cases e;omega⟩
  ·exact⟨rfl,λi e=>by cases e;omega⟩
  ·exact⟨rfl,λi e=>by cases e;decide⟩
  ·exact⟨rfl,λi e=>by cases e⟩
  ·exact⟨rfl,λi e=>by cases e⟩
  ·exact⟨rfl,λi e=>by cases e⟩
  ·exact⟨rfl,λi e=>by cases e⟩
  ·exact⟨rfl,λi e=>by cases e;decide⟩
 have f3:uj (EV (some (rD o)) none none none none none) s2=.ok (.nx (EV (some (rD o)) (some od) none none none none)) s3:=by
  have e3':eOp dIx _ (ze Pg.zk (za (zd 0) (za (eC (.int 9)) zi))) _ s2=_:=e3;rw[uj,yO,e3',Rb,t6]
 have bOth:Bn 16 (.tup (iL (o.take k)++[od]++iL (o.drop (k+1)))):=Bn.tup λx hx=>by
  simp only[_E,_h,_Z,_bs,iL,_y]at hx;rcases hx with (⟨i,hi,rfl⟩ | rfl) | ⟨i,hi,rfl⟩;·exact⟨rfl,λj e=>by cases e;have:=btk i hi;omega⟩
  ·exact oko
  ·exact⟨rfl,λj e=>by cases e;have:=bdk _ i hi;omega⟩
 have l4:eOp wT (eOp wT (eSl (zd 5) yo (vw (zd 4))) (vA (za (zd 6) zi))) (eSl (zd 5) (vw (eOp wT (zd 4) (eC (.int 1)))) yo) (EV (some (rD o)) (some od) none none none none) s3=.ok (.tup (iL (o.take k)++[od]++iL (o.drop (k+1)))) s3:=by
  have l1:=ldk (k+1);rw[z3d,z3d,z4o,vr (v5 ..),Rb,wH,Rb,ql,vr (v4 ..),Rb];simp only[Rb];rw[sk,Rb,z6f (zY (vr (v6 ..)) z1s) (by simp),Rb,zfu (by simp;omega),Rb,z4o,vr (v5 ..),Rb,ql,op2 (x:=.int k) (y:=.int 1) (vr (v4 ..)) rfl,kC,Rb];simp only[Rb,wH];rw[sd,Rb,zfu (by simp;omega)]
 generalize D.tup (iL (o.take k)++[od]++iL (o.drop (k+1)))=oth at l4 bOth;have f4:ug (EV (some (rD o)) (some od) none none none none) s3=.ok (.nx (EV (some (rD o)) (some od) (some oth) none none none)) s3:=by rw[ug,yO,l4,Rb,t7]
 have ol1:=ldk 1;have l5:z04 (za (zd 7) (za (zd 7) (za (zd 7) (za (eSl (zd 5) (vw (eC (.int 1))) yo) (za (eOp wT (zd 5) (vA (za (eC (.int 0)) zi))) (za (ze z6R (za (zd 5) zi)) (za (eC .non) (za (zd 5) zi)))))))) (EV (some (rD o)) (some od) (some oth) none none none) s3=.ok (.lst [oth,oth,oth,rD (o.drop 1),.tup (iL o++[.int 0]),.lst (iL o),.non,rD o]) s3:=by
  refine zaD (zY (vr (v7 ..)) (zY (vr (v7 ..)) (zY (vr (v7 ..)) (zY ?_ (zY ?_ (zY ?_ (zY rfl (zY (vr (v5 ..)) z1s)))))))) (by simp)
  ·rw[z4o,vr (v5 ..),Rb,ql,z94,Rb];simp only[Rb,wH];exact sd 0 s3
  ·rw[op2 (x:=rD o) (y:=.tup [.int 0]) (vr (v5 ..)) (z6f (zY rfl z1s) (by decide)),zfu (by simp;omega)]
  ·exact (xh (x:=rD o) (vr (v5 ..))).trans rfl
 obtain⟨so,s4,e5,m5,d4⟩:=zcY (i:=0) (k:=8) rfl (by decide) (by decide) d3.pot l5 (v0 ..);have bS:Bn 16 so:=by
  simp only[_h,_Z,_bs]at m5;rcases m5 with rfl | rfl | rfl | rfl | rfl | rfl | rfl | rfl;·exact bOth
  ·exact bOth
  ·exact bOth
  ·exact Bn.row λx hx=>by have:=bdk 1 x hx;omega
  ·exact Bn.tup λx hx=>by
    simp only[_E,_h,_Z,_bs,iL,_y]at hx;rcases hx with⟨i,hi,rfl⟩ | rfl;·exact⟨rfl,λj e=>by cases e;have:=ob i hi;omega⟩
    ·exact⟨rfl,λj e=>by cases e;decide⟩
  ·exact Bn.other rfl λxs e=>by cases e
  ·exact Bn.other rfl λxs e=>by cases e
  ·exact bO
 have f5:uA (EV (some (rD o)) (some od) (some oth) none none none) s3=.ok (.nx (EV (some (rD o)) (some od) (some oth) (some so) none none)) s4:=by
  have e5':eOp dIx _ (ze Pg.zk (za (zd 0) (za (eC (.int 8)) zi))) _ s3=_:=e5;rw[uA,yO,e5',Rb,t8]
 have l6:∀s,∃nw,eOp dIx (z04 (za (vA (za (zd 8) (za (eOp dIx (zd 1) (eC (.int 1))) zi))) (za (vA (za (eOp dIx (zd 1) (eC (.int 0))) (za (zd 8) zi))) zi))) (zd 3) (EV (some (rD o)) (some od) (some oth) (some so) none none) s=.ok nw s/\Tn 16 nw:=λs=>by
  have i0:eOp dIx (zd 1) (eC (.int 0)) (EV (some (rD o)) (some od) (some oth) (some so) none none) s=.ok da s:=by rw[op2 (x:=.tup [da,dc]) (y:=.int 0) (vr (v1 ..)) rfl];rfl
  have i1:eOp dIx (zd 1) (eC (.int 1)) (EV (some (rD o)) (some od) (some oth) (some so) none none) s=.ok dc s:=by rw[op2 (x:=.tup [da,dc]) (y:=.int 1) (vr (v1 ..)) rfl];rfl
  have ll:z04 (za (vA (za (zd 8) (za (eOp dIx (zd 1) (eC (.int 1))) zi))) (za (vA (za (eOp dIx (zd 1) (eC (.int 0))) (za (zd 8) zi))) zi)) (EV (some (rD o)) (some od) (some oth) (some so) none none) s=.ok (.lst [.tup [so,dc],.tup [da,so]]) s:=zaD (zY (z6f (zY (vr (v8 ..)) (zY i1 z1s)) (by simp)) (zY (z6f (zY i0 (zY (vr (v8 ..)) z1s)) (by simp)) z1s)) (by simp);rcases (by omega:w=0\/w=1) with rfl | rfl
  ·refine⟨.tup [so,dc],by rw[op2 (y:=.int 0) ll (vr (v3 ..))];rfl,Tn.tup λx hx=>?_⟩;simp only[_h,_Z,_bs]at hx;rcases hx with rfl | rfl;·exact bS
   ·exact bC
  ·refine⟨.tup [da,so],by rw[op2 (y:=.int 1) ll (vr (v3 ..))];rfl,Tn.tup λx hx=>?_⟩;simp only[_h,_Z,_bs]at hx;rcases hx with rfl | rfl;·exact bA
   ·exact bS
 obtain⟨nw,e6,tN⟩:=l6 s4;have f6:uk (EV (some (rD o)) (some od) (some oth) (some so) none none) s4=.ok (.nx (EV (some (rD o)) (some od) (some oth) (some so) (some nw) none)) s4:=by rw[uk,yO,e6,Rb,t9]
 generalize rD o=dO at *;have l7:z04 (za (zcL (zd 1)) (za (ze z6R (za (zd 1) zi)) (za (eOp wT (zd 1) (vA (za (zd 5) zi))) (za (vA (za (zd 5) zi)) (za (vA (za (zd 5) (za (zd 5) zi))) (za (eC .non) (za (eC (.int 5)) (za (eC (.str "")) (za (zd 1) zi))))))))) (EV (some dO) (some od) (some oth) (some so) (some nw) none) s4=.ok (.lst [.tup [dc,da],.lst [da,dc],.tup [da,dc,dO],.tup [dO],.tup [dO,dO],.non,.int 5,.str "",.tup [da,dc]]) s4:=by
  refine zaD (zY ?_ (zY ?_ (zY ?_ (zY (z6f (zY (vr (v5 ..)) z1s) (by simp)) (zY (z6f (zY (vr (v5 ..)) (zY (vr (v5 ..)) z1s)) (by simp)) (zY rfl (zY rfl (zY rfl (zY (vr (v1 ..)) z1s))))))))) (by simp);·rw[zb6,vr (v1 ..),Rb];rfl
  ·exact (xh (x:=.tup [da,dc]) (vr (v1 ..))).trans rfl
  ·rw[op2 (x:=.tup [da,dc]) (y:=.tup [dO]) (vr (v1 ..)) (z6f (zY (vr (v5 ..)) z1s) (by simp)),zfu (by simp)];rfl
 have f7:ue (EV (some dO) (some od) (some oth) (some so) (some nw) none) s4=.ok (.nx (EV (some dO) (some od) (some oth) (some so) (some nw) (some (.lst [.tup [dc,da],.lst [da,dc],.tup [da,dc,dO],.tup [dO],.tup [dO,dO],.non,.int 5,.str "",.tup [da,dc]])))) s4:=by rw[ue,yO,l7,Rb,t10]
 have l8:eOp wT (z04 (za (zd 9) (za (zd 9) (za (zd 9) zi)))) (zd 10) (EV (some dO) (some od) (some oth) (some so) (some nw) (some (.lst [.tup [dc,da],.lst [da,dc],.tup [da,dc,dO],.tup [dO],.tup [dO,dO],.non,.int 5,.str "",.tup [da,dc]]))) s4=.ok (.lst [nw,nw,nw,.tup [dc,da],.lst [da,dc],.tup [da,dc,dO],.tup [dO],.tup [dO,dO],.non,.int 5,.str "",.tup [da,dc]]) s4:=by rw[op2 (x:=.lst [nw,nw,nw]) (zaD (zY (vr (v9 ..)) (zY (vr (v9 ..)) (zY (vr (v9 ..)) z1s))) (by simp)) (vr (v10 ..)),z3Q,_g (by simp[cap])];rfl
 obtain⟨r,s5,e8,m8,d5⟩:=zcY (i:=0) (k:=12) rfl (by decide) (by decide) d4.pot l8 (v0 ..);have f8:uu (EV (some dO) (some od) (some oth) (some so) (some nw) (some (.lst [.tup [dc,da],.lst [da,dc],.tup [da,dc,dO],.tup [dO],.tup [dO,dO],.non,.int 5,.str "",.tup [da,dc]]))) s4=.ok (.rt r) s5:=by
  have e8':eOp dIx _ (ze Pg.zk (za (zd 0) (za (eC (.int 12)) zi))) _ s4=_:=e8;rw[uu,wS,e8'];rfl
 refine⟨r,s5,fin _ _ ?_,?_,((d1.trans d2).trans d3).trans (d4.trans d5)⟩;·rw[qi,zD f1,zD f2,zD f3,zD f4,zD f5,zD f6,zD f7,f8]
 ·have bOO:Bn 16 dO:=by rcases oo with e | e<;>rw[e]<;>assumption
  simp only[_h,_Z,_bs]at m8;rcases m8 with rfl | rfl | rfl | rfl | rfl | rfl | rfl | rfl | rfl | rfl | rfl | rfl;·exact tN
  ·exact tN
  ·exact tN
  ·exact Tn.tup (zdk bC bA)
  ·exact Tn.other rfl λxs e=>by cases e
  ·exact Tn.tup λx hx=>(_h.mp hx).elim (λe=>e ▸ bA) (zdk bC bOO x)
  ·exact Tn.tup λx hx=>by rw[_ao.mp hx];exact bOO
  ·exact Tn.tup (zdk bOO bOO)
  ·exact Tn.other rfl λxs e=>by cases e
  ·exact Tn.other rfl λxs e=>by cases e
  ·exact Tn.other rfl λxs e=>by cases e
  ·exact Tn.tup (zdk bA bC)
noncomputable def fcD(v:List Int)(m:Nat):D:=match cls v m with | []=>.non | n::M=>dQ (kf n M)
theorem z4T{n m w:Nat}{v:List Int}(W:LW n v w)(h1:1<=m)(h8:m<=8)(s:Sto):zR [rD v,.int m] s=.ok (fcD v m) s:=by
 refine W.fc h1 h8 s _ ?_;have key:∀(d e:D)(L:List NQ),xo [some d,some e,some (.lst (L.map cD2))] s=.ok (.rt (match L with | []=>.non | n::M=>dQ (kf n M))) s:=λd e L=>by
  have pq:qu (L.map cD2)=some L:=z2Z L;rw[xo,wS];unfold zcQ;rw[vr (d:=.lst (L.map cD2)) rfl,Rb,z94,Rb];simp only[pq];cases L<;>rfl
 exact key _ _ (cls v m)
theorem z6J(v:List Int)(m:Nat)(s:Sto):((zV yk (wL v m)).map dQ++[.non])[0]? = some (fcD v m):=by
 obtain⟨_,h1,h2⟩:=z1X v m;unfold fcD;cases q:cls v m with
 | nil=>rw[h1 q];rfl | cons n M=>obtain⟨t,e⟩:=h2 n M q;rw[e];rfl
theorem ze6(x:List Int):okD 1 (rD x)=true:=by
 simp only[rD,okD,iL,_dE,_ag];intro i _;rfl
theorem zgx(p:NQ):okD 2 (dQ p)=true:=by
 have h1:=ze6 p.1;have h2:=ze6 p.2;unfold dQ;change okD 1 (.tup (p.1.map D.int))=true at h1;change okD 1 (.tup (p.2.map D.int))=true at h2;generalize D.tup (p.1.map D.int)=a at *;generalize D.tup (p.2.map D.int)=b at *;simp only[okD,List.all_cons,List.all_nil,h1,h2,_dl]
theorem zhE(L:List NQ):z98 (.lst (L.map dQ))=true:=by
 refine zdn (k:=3) ?_ (by decide);simp only[okD,_dE,_ag];exact λp _=>zgx p
theorem eq_nil(L:List NQ)(s:Sto):dEq (.lst (L.map dQ)) (.lst []) s=.ok (.bl L.isEmpty) s:=by
 have h0:z98 (.lst [])=true:=rfl;have:=zhE L;rw[dEq,_g ⟨this,h0⟩];cases L<;>rfl
theorem ze7(v:List Int)(m:Nat):(zV yk (wL v m)).isEmpty=(rel v m).isEmpty:=by
 obtain⟨h,_,_⟩:=z1X v m;cases q:rel v m with
 | nil=>rw[h.mp q];rfl | cons x t=> cases q2:zV yk (wL v m) with
  | nil=>rw[h.mpr q2]at q;cases q | cons _ _=>rfl
theorem zfZ{p:NQ}(h1:p.1.length<=1000)(h2:p.2.length<=1000):smD 3 (dQ p)=true:=by
 have e1:smD 2 (rD p.1)=true:=by
  simp only[rD,smD,iL,_dE,_o,_p,_ag,_m];exact⟨λi _=>rfl,by unfold cap;omega⟩
 have e2:smD 2 (rD p.2)=true:=by
  simp only[rD,smD,iL,_dE,_o,_p,_ag,_m];exact⟨λi _=>rfl,by unfold cap;omega⟩
 unfold dQ;change smD 2 (.tup (p.1.map D.int))=true at e1;change smD 2 (.tup (p.2.map D.int))=true at e2;generalize D.tup (p.1.map D.int)=a at *;generalize D.tup (p.2.map D.int)=b at *;simp only[smD,List.all_cons,List.all_nil,e1,e2,_dl,_aG];rfl
theorem zgk {n m:Nat} {v:List Int} (hl:v.length=n) (hn:n<=4):smD 3 (fcD v m)=true:=by
 unfold fcD;cases q:cls v m with
 | nil=>rfl | cons x M=>
  obtain⟨h1,h2,_⟩:=zdP (v:=v) (m:=m) (kf x M) (by rw[q];exact z2T x M);have l1:=(wU.mp h1).1;have l2:=(wU.mp h2).1;exact zfZ (by omega) (by omega)
noncomputable abbrev L11(a0 a1 a2 a3 a4 a5 a6 a7 a8 a9 a10:Option D):Ev:=[a0,a1,a2,a3,a4,a5,a6,a7,a8,a9,a10]
theorem z5l {n m w:Nat} {v:List Int} (W:LW n v w) (h8:m<=8):(zV yk (wL v m)).length<=6561:=by
 rw[(qF yk (wL v m)).length_eq];have l1:(wL v m).length<=(z4q v (xR v.length m)).length:=by unfold wL prs;rw[_o];exact _bj _ _
 have G:=z0I v (xR v.length m);have hB:(xR v.length m).length<=6561:=_M z0i (zfs h8 (by have:=W.L.len;have:=W.L.hi;omega));have:=_bt (l₁:=(z4q v (xR v.length m)).map (·.1)) (l₂:=(xR v.length m).map λy=>dot y v) G.nd (λk hk=>by
  obtain⟨e,he,rfl⟩:=_y.mp hk;obtain⟨h1,h2⟩:=G.at_ e he;cases q:e.2 with
  | nil=>exact absurd q h2 | cons y t=>
   have:y∈e.2:=by rw[q];exact .head _
   rw[h1,_K]at this;exact _y.mpr ⟨y,this.1,_a3 this.2⟩);simp only[_o]at this;omega
theorem zgA {n m w:Nat} {v:List Int} (W:LW n v w) (h1:1<=m) (h8:m<=8) (a0 a1 a2 a3 a7 a8 a9 a10:Option D) (s:Sto): ∃b7,z0U (L11 a0 a1 a2 a3 (some (rD v)) (some (.int m)) (some (.lst ((zV yk (wL v m)).map dQ))) a7 a8 a9 a10) s=.ok (.nx (L11 a0 a1 a2 a3 (some (rD v)) (some (.int m)) (some (.lst ((zV yk (wL v m)).map dQ))) b7 a8 a9 a10)) s:=by
 have fc:=z4T W h1 h8 s;have hnn:=W.hasnone h1 h8 s;have sf:=z6J v m s;have sm:=z7e (d:=fcD v m) s (zgk (m:=m) W.L.len (by have:=W.L.hi;omega));have sb:=z7e (d:=.bl (rel v m).isEmpty) s rfl;have en:=eq_nil (zV yk (wL v m)) s;rw[ze7]at en;have ln:(zV yk (wL v m)).length+1<=cap:=by have:=z5l W h8;unfold cap;omega
 have ad:wT (.lst ((zV yk (wL v m)).map dQ)) (.lst [.non]) s=.ok (.lst ((zV yk (wL v m)).map dQ++[.non])) s:=by rw[z3Q,_g (by simpa using ln)]
 have ix:=zaU (xs:=(zV yk (wL v m)).map dQ++[.non]) (i:=0) (d:=fcD v m) (s:=s) (by decide) sf;generalize (zV yk (wL v m)).map dQ=S at *;generalize rD v=dv at *;generalize fcD v m=fd at *;generalize D.bl (rel v m).isEmpty=be at *;generalize D.int m=dm at *;obtain⟨ρ',s',lp,b7,hρ,hs⟩:=ju (all:=(List.range 2).map λk:Nat=>D.int ((k:Nat):Int)) (body:=λd ρ s=>(xK 7 d ρ s).bind fun ρ' s'=>(zZ z0R jo) ρ' s') (fun ρ S'=>∃b7,ρ=L11 a0 a1 a2 a3 (some dv) (some dm) (some (.lst S)) b7 a8 a9 a10/\S'=s) ((List.range 2).map λk:Nat=>D.int ((k:Nat):Int)) (λx hx ρ S' ⟨b7,hρ,hS⟩=>by
  subst hρ hS;have f8:z0R (L11 a0 a1 a2 a3 (some dv) (some dm) (some (.lst S)) (some x) a8 a9 a10) S'=.ok (.nx (L11 a0 a1 a2 a3 (some dv) (some dm) (some (.lst S)) (some x) a8 a9 a10)) S':=by
   rw[z0R,z96 (z8n (vL (by rw[call2 (x:=fd) (y:=fd) (by rw[call2 (x:=dv) (y:=dm) (vr rfl) (vr rfl),fc]) (by rw[op2 (x:=.lst (S++[.non])) (y:=.int 0) (by rw[op2 (x:=.lst S) (y:=.lst [.non]) (vr rfl) (zaD (zY rfl z1s) (by decide)),ad]) rfl,ix]),sm])))];rfl
  have f10:jo (L11 a0 a1 a2 a3 (some dv) (some dm) (some (.lst S)) (some x) a8 a9 a10) S'=.ok (.nx (L11 a0 a1 a2 a3 (some dv) (some dm) (some (.lst S)) (some x) a8 a9 a10)) S':=by
   rw[jo,z96 (z8n (vL (by rw[call2 (x:=be) (y:=be) (by rw[call2 (x:=dv) (y:=dm) (vr rfl) (vr rfl),hnn]) (by rw[op2 (x:=.lst S) (y:=.lst []) (vr rfl) (zaD z1s (by decide)),en]),sb])))];rfl
  refine⟨L11 a0 a1 a2 a3 (some dv) (some dm) (some (.lst S)) (some x) a8 a9 a10,S',?_,some x,rfl,rfl⟩;rw[kS,Rb];show (zZ z0R jo) (L11 a0 a1 a2 a3 (some dv) (some dm) (some (.lst S)) (some x) a8 a9 a10) S'=_;rw[zD f8,f10]) (L11 a0 a1 a2 a3 (some dv) (some dm) (some (.lst S)) a7 a8 a9 a10) s ⟨a7,rfl,rfl⟩;refine⟨b7,?_⟩;rw[z0U,qC,uU (n:=2) (s1:=s) (by omega) (by rfl),Rb,lp,hρ,hs]
structure PrQ(n:Nat)(p:NQ):Prop where
 l1:p.1.length=n
 l2:p.2.length=n
 b1:∀i∈p.1,i.natAbs<2 ^ 10
 b2:∀i∈p.2,i.natAbs<2 ^ 10
theorem zfU {n m l:Nat} {s:Sto} (hp:Pot s l) (hn:Sz n) (hm:m<=8) (ρ:Ev) (h0:ρ[0]? = some (some (.loc l))) (h1:ρ[1]? = some (some (.int m))) (h2:ρ[2]? = some (some (.int n))): ∃x:List Int,∃s',ze wn (za (zX (z2l (za (zd 2) zi)) [some 0,some 1,none] (xK 2) xJ (ze Pg.zk (za (zd 0) (za (eOp wT (zd 1) (eC (.int 1))) zi)))) zi) ρ s=.ok (rD x) s'/\x.length=n/\(∀i∈x,i.natAbs<2 ^ 10)/\yQ s s' l:=by
 have n4:2<=n/\n<=4:=by unfold Sz at hn;omega
 have iD:zW [some 0,some 1,none] ρ=[some (.loc l),some (.int m),none]:=by simp[zW,h0,h1]
 obtain⟨ys,s',e,l1,q,d⟩:=z7z (fi:=z2l (za (zd 2) zi)) (mp:=[some 0,some 1,none]) (fg:=xK 2) (fe:=ze Pg.zk (za (zd 0) (za (eOp wT (zd 1) (eC (.int 1))) zi))) (ρ:=ρ) (s:=s) (s0:=s) (λk:Nat=>D.int ((k:Nat):Int)) (λk=>[some (.loc l),some (.int m),some (.int ((k:Nat):Int))]) (λs'=>yQ s s' l) (λy=>∃i:Int,y=.int i/\0<=i/\i<=1000) (List.range n) (uU (n:=n) (by omega) (by rw[zN,vr h2,Rb,xk];rfl)) (λk _ s=>by rw[iD];rfl) (λk _ s1 hd=>by
   obtain⟨x,s2,e,x0,x1,d⟩:=qp (f:=zd 0) (g:=eOp wT (zd 1) (eC (.int 1))) (far:=(m:Int)+1) (ρ:=[some (.loc l),some (.int m),some (.int k)]) hd.pot (by omega) (z1A (by omega)) (vr rfl) (by rw[op2 (x:=.int m) (y:=.int 1) (vr rfl) rfl,kC]);exact⟨.int x,s2,e,⟨x,rfl,x0,by omega⟩,hd.trans d⟩) (by simp[cap];omega) (yQ.refl hp);obtain⟨xs,rfl,x2⟩:=z31 1000 ys q;refine⟨xs,s',?_,by simpa using l1,λi hi=>by have:=x2 i hi;omega,d⟩;rw[qw,zN,e,Rb,xk,Rb,Rb];exact z8t _ _
theorem zf7 {n m l:Nat} {s:Sto} (hp:Pot s l) (hn:Sz n) (hm:m<=8) (a0 a1 a4 a6 a7 a8 a9 a10:Option D): ∃p:NQ,∃s',jB (L11 a0 a1 (some (.loc l)) (some (.int n)) a4 (some (.int m)) a6 a7 a8 a9 a10) s=.ok (.nx (L11 a0 a1 (some (.loc l)) (some (.int n)) a4 (some (.int m)) a6 a7 (some (.lst [dQ p])) a9 a10)) s'/\PrQ n p/\yQ s s' l:=by
 obtain⟨ys,s',e,l1,q,d⟩:=z7z (fi:=z2l (za (eC (.int 2)) zi)) (mp:=[some 2,some 5,some 3,none]) (fg:=xK 3) (fe:=ze wn (za (zX (z2l (za (zd 2) zi)) [some 0,some 1,none] (xK 2) xJ (ze Pg.zk (za (zd 0) (za (eOp wT (zd 1) (eC (.int 1))) zi)))) zi)) (ρ:=L11 a0 a1 (some (.loc l)) (some (.int n)) a4 (some (.int m)) a6 a7 a8 a9 a10) (s:=s) (s0:=s) (λk:Nat=>D.int ((k:Nat):Int)) (λk=>[some (.loc l),some (.int m),some (.int n),some (.int ((k:Nat):Int))]) (λs'=>yQ s s' l) (λy=>∃x:List Int,y=rD x/\x.length=n/\∀i∈x,i.natAbs<2 ^ 10) (List.range 2) (uU (n:=2) (by omega) (by rfl)) (λk _ s=>rfl) (λk _ s1 hd=>by
   obtain⟨x,s2,e,h1,h2,d⟩:=zfU hd.pot hn hm [some (.loc l),some (.int m),some (.int n),some (.int k)] rfl rfl rfl;exact⟨rD x,s2,e,⟨x,rfl,h1,h2⟩,hd.trans d⟩) (by simp[cap]) (yQ.refl hp);match ys,l1,q with
 | [y1,y2],_,q=>
  obtain⟨a,rfl,al,ab⟩:=q y1 (by simp);obtain⟨c,rfl,cl,cb⟩:=q y2 (by simp);refine⟨(a,c),s',?_,⟨al,cl,ab,cb⟩,d⟩;have pd:dQ (a,c)=.tup [rD a,rD c]:=rfl;rw[pd];generalize rD a=da at *;generalize rD c=dc at *;rw[jB,yO,z1Q,zN,qw,zN,e,Rb,xk,Rb,Rb,z8t,Rb,xk];rfl | [],l1,_=>simp at l1 | [_],l1,_=>simp at l1 | _::_::_::_,l1,_=>simp at l1
theorem z9X(xs:List D)(s:Sto):∃k,k<=xs.length/\dSl (.lst xs) (some (-1)) none s=.ok (.lst (xs.drop k)) s:=by
 have e:Dd.cutD xs (some (-1)) none=xs.drop (xs.length-1):=by
  unfold Dd.cutD;rw[HT.z2B];cases xs with
  | nil=>rfl | cons x t=>
   have h:(-1+(((x::t).length:Nat):Int)).toNat=t.length:=by simp;omega
   show ((x::t).drop (-1+(((x::t).length:Nat):Int)).toNat).take ((x::t).length-(-1+(((x::t).length:Nat):Int)).toNat)=_;rw[h,_aA (by simp)];simp
 exact⟨xs.length-1,by omega,by simp only[dSl,Dd.listOf,e]⟩
end K52
namespace Pr
open L2 Dd Pm Pg Pn Po Pp
end Pr
namespace Pp
open L2 Dd Pm Pg Pn
end Pp
namespace Pr
open L2 Dd Pm Pg Pn Po Pp
theorem zdq(n:Nat)(b:Nat):∃k:Nat,(if (if (b:Int)<(n:Int) then (b:Int) else n) > 1 then (if (b:Int)<(n:Int) then (b:Int) else n) else 1)=(k:Int)/\k<=b+1:=by
 by_cases h:(b:Int)<n
 ·rw[_g h];by_cases h2:(b:Int) > 1;·exact⟨b,by rw[_g h2],by omega⟩
  ·exact⟨1,by rw[_j h2];rfl,by omega⟩
 ·rw[_j h];by_cases h2:(n:Int) > 1;·exact⟨n,by rw[_g h2],by omega⟩
  ·exact⟨1,by rw[_j h2];rfl,by omega⟩
end Pr
namespace K52
open L2 Dd Pm Pg Pn Po Pr Pp Pt Pv Pw
theorem zgX{o:D->D->Sto->R D}{f g:FE}{ρ:Ev}{s:Sto}{x y z:D}(h:f ρ s=.ok x s)(h2:g ρ s=.ok y s)(h3:o x y s=.ok z s):eOp o f g ρ s=.ok z s:=(op2 h h2).trans h3
theorem zbp{n:Nat}(x:Int)(h1:1<=n)(h2:n<=4)(s:Sto):z3D (.tup [.int x]) (.int n) s=.ok (rD (List.replicate n x)) s:=by
 rw[zbP,_g ⟨by omega,by simp,by simp[cap];omega⟩];have:(List.replicate n [D.int x]).flatten=iL (List.replicate n x):=by simp[iL]
 rw[_b5,this]
theorem zbc{v:List Int}{n m:Nat}{x:List Int}(hl:v.length=n)(hm:m<=8)(h:x∈xR v.length m):x.length=n/\∀i∈x,i.natAbs<2 ^ 10:=by
 obtain⟨h1,h2⟩:=wU.mp h;exact⟨by omega,λi hi=>by have:=h2 i hi;omega⟩
theorem zbI {n m:Nat} {v:List Int} (hl:v.length=n) (hn:Sz n) (hm:m<=8) {p:NQ} (hp:PrQ n p) (hS:(zV yk (wL v m)).length<=6561) (a0 a1 a2 a4 a7 a9 a10:Option D) (s:Sto): ∃L:List NQ,(∀q∈L,PrQ n q)/\L.length<=20000/\jK (L11 a0 a1 a2 (some (.int n)) a4 (some (.int m)) (some (.lst ((zV yk (wL v m)).map dQ))) a7 (some (.lst [dQ p])) a9 a10) s=.ok (.nx (L11 a0 a1 a2 (some (.int n)) a4 (some (.int m)) (some (.lst ((zV yk (wL v m)).map dQ))) a7 (some (.lst (L.map dQ))) a9 a10)) s:=by
 have n4:2<=n/\n<=4:=by unfold Sz at hn;omega
 obtain⟨k,hk,ek⟩:=z9X ((zV yk (wL v m)).map dQ) s;have e1:dSl (.lst ((zV yk (wL v m)).map dQ)) none (some 1) s=.ok (.lst (((zV yk (wL v m)).map dQ).take 1)) s:=by
  have e:Dd.cutD ((zV yk (wL v m)).map dQ) none (some 1)=((zV yk (wL v m)).map dQ).take 1:=by
   have:=z2r ((zV yk (wL v m)).map dQ) 1 [];simp only[dSl]at this;injection this with h;injection h
  simp only[dSl,Dd.listOf,e]
 have r0:=zbp (n:=n) 0 (by omega) (by omega) s;have rm:=zbp (n:=n) (m:Int) (by omega) (by omega) s;let q:NQ:=(List.replicate n 0,List.replicate n (m:Int));have qP:PrQ n q:=⟨by simp[q],by simp[q],λi hi=>by rw[_as hi];decide,λi hi=>by rw[_as hi];omega⟩;have qd:dQ q=.tup [rD (List.replicate n 0),rD (List.replicate n (m:Int))]:=rfl;refine⟨[p]++(zV yk (wL v m)).take 1++(zV yk (wL v m)).drop k++[q],λx hx=>?_,?_,?_⟩
 ·have ms:∀y∈zV yk (wL v m),PrQ n y:=λy hy=>by
   obtain⟨h1,h2,_⟩:=z6b hy;obtain⟨l1,b1⟩:=zbc hl hm h1;obtain⟨l2,b2⟩:=zbc hl hm h2;exact⟨l1,l2,b1,b2⟩
  simp only[_E,_ao]at hx;rcases hx with ((rfl | hx) | hx) | rfl;·exact hp
  ·exact ms x (_W hx)
  ·exact ms x (_bH hx)
  ·exact qP
 ·simp only[_H,_ae,_bp,_bB];omega
 ·have lS:((zV yk (wL v m)).map dQ).length<=6561:=by simpa using hS
  have eL:([p]++(zV yk (wL v m)).take 1++(zV yk (wL v m)).drop k++[q]).map dQ=[dQ p]++((zV yk (wL v m)).map dQ).take 1++((zV yk (wL v m)).map dQ).drop k++[dQ q]:=by simp[List.map_take,List.map_drop]
  rw[eL];generalize (zV yk (wL v m)).map dQ=S at *;rw[qd];generalize dQ p=dp at *;generalize rD (List.replicate n 0)=z0 at *;generalize rD (List.replicate n (m:Int))=zm at *;have v8:zd 8 (L11 a0 a1 a2 (some (.int n)) a4 (some (.int m)) (some (.lst S)) a7 (some (.lst [dp])) a9 a10) s=.ok (.lst [dp]) s:=vr rfl;have s1:eSl (zd 6) yo (vw (eC (.int 1))) (L11 a0 a1 a2 (some (.int n)) a4 (some (.int m)) (some (.lst S)) a7 (some (.lst [dp])) a9 a10) s=.ok (.lst (S.take 1)) s:=by
   rw[z4o,vr (d:=.lst S) rfl,Rb,wH,Rb,ql,z94,Rb];exact e1
  have s2:eSl (zd 6) (vw (z5c (eC (.int 1)))) yo (L11 a0 a1 a2 (some (.int n)) a4 (some (.int m)) (some (.lst S)) a7 (some (.lst [dp])) a9 a10) s=.ok (.lst (S.drop k)) s:=by
   rw[z4o,vr (d:=.lst S) rfl,Rb,ql,z3A,z94,Rb,Rb];simp only[Rb,wH];exact ek
  have s3:z04 (za (vA (za (eOp z3D (vA (za (eC (.int 0)) zi)) (zd 3)) (za (eOp z3D (vA (za (zd 5) zi)) (zd 3)) zi))) zi) (L11 a0 a1 a2 (some (.int n)) a4 (some (.int m)) (some (.lst S)) a7 (some (.lst [dp])) a9 a10) s=.ok (.lst [.tup [z0,zm]]) s:=zaD (zY (z6f (zY (by rw[op2 (x:=.tup [.int 0]) (y:=.int n) (z6f (zY rfl z1s) (by decide)) (vr rfl),r0]) (zY (by rw[op2 (x:=.tup [.int m]) (y:=.int n) (z6f (zY (vr rfl) z1s) (by simp)) (vr rfl),rm]) z1s)) (by simp)) z1s) (by simp);have t1:(S.take 1).length<=1:=by rw[_ae];omega
  have t2:(S.drop k).length<=6561:=by rw[_bp];omega
  rw[jK,yO,op2 (x:=.lst ([dp]++S.take 1++S.drop k)) (zgX (zgX v8 s1 (by rw[z3Q,_g (by unfold cap;simp;omega)])) s2 (by rw[z3Q,_g (by unfold cap;simp;omega)])) s3,z3Q,_g (by unfold cap;simp;omega)];rfl
theorem zax {n m w l:Nat} {v:List Int} (W:LW n v w) (h1:1<=m) (h8:m<=8) {p:NQ} (hp:PrQ n p) {s:Sto} (hs:Pot s l) (a0 a1 a3 a6 a7 a8 a10:Option D): ∃b10 s',z0p (L11 a0 a1 (some (.loc l)) a3 (some (rD v)) (some (.int m)) a6 a7 a8 (some (dQ p)) a10) s=.ok (.nx (L11 a0 a1 (some (.loc l)) a3 (some (rD v)) (some (.int m)) a6 a7 a8 (some (dQ p)) b10)) s'/\yQ s s' l:=by
 have hn:Sz n:=by have:=W.L.lo;have:=W.L.hi;unfold Sz;omega
 obtain⟨d1,s1,e1,t1,r1⟩:=zbs (m:=m) hs hn hp.l1 hp.l2 hp.b1 hp.b2 h8;obtain⟨d2,s2,e2,t2,r2⟩:=zbs (m:=m) r1.pot hn hp.l1 hp.l2 hp.b1 hp.b2 h8;have bA:Bn 16 (rD p.1):=Bn.row λx hx=>by have:=hp.b1 x hx;omega
 have bC:Bn 16 (rD p.2):=Bn.row λx hx=>by have:=hp.b2 x hx;omega
 have tp:Tn 16 (.tup [rD p.1,rD p.2]):=Tn.tup (zdk bA bC);have tr:Tn 16 (.tup [rD p.2,rD p.1]):=Tn.tup (zdk bC bA);have bo:=λ(d:D) (hd:Tn 16 d)=>zbA W h1 h8 hd;have pd:dQ p=.tup [rD p.1,rD p.2]:=rfl;rw[show dQ (p.1,p.2)=.tup [rD p.1,rD p.2] from rfl]at e1 e2;rw[pd];generalize rD p.1=da at *;generalize rD p.2=dc at *;generalize rD v=dv at *;have ll:z04 (za (zd 9) (za (zcL (zd 9)) (za (ze yH (za (zd 2) (za (zd 9) (za (zd 5) zi)))) (za (ze yH (za (zd 2) (za (zd 9) (za (zd 5) zi)))) zi)))) (L11 a0 a1 (some (.loc l)) a3 (some dv) (some (.int m)) a6 a7 a8 (some (.tup [da,dc])) a10) s=.ok (.lst [.tup [da,dc],.tup [dc,da],d1,d2]) s2:=by
  rw[z1Q,zN,vr (d:=.tup [da,dc]) rfl,Rb,zN,zb6,vr (d:=.tup [da,dc]) rfl,Rb];simp only[Rb];rw[zN,z2Y (x:=.loc l) (y:=.tup [da,dc]) (z:=.int m) (vr rfl) (vr rfl) (vr rfl),e1,Rb,zN,z2Y (x:=.loc l) (y:=.tup [da,dc]) (z:=.int m) (vr rfl) (vr rfl) (vr rfl),e2,Rb,xk,Rb,Rb,Rb,Rb,Rb,_g (by simp[cap])];rfl
 have all:∀d∈[D.tup [da,dc],.tup [dc,da],d1,d2],Tn 16 d:=λd hd=>by
  simp only[_h,_Z,_bs]at hd;rcases hd with rfl | rfl | rfl | rfl;·exact tp
  ·exact tr
  ·exact t1
  ·exact t2
 obtain⟨ρ',s',lp,b10,hρ,hS⟩:=ju (all:=[D.tup [da,dc],.tup [dc,da],d1,d2]) (body:=λd ρ s=>(xK 10 d ρ s).bind fun ρ' s'=>z0r ρ' s') (fun ρ S'=>∃b10,ρ=L11 a0 a1 (some (.loc l)) a3 (some dv) (some (.int m)) a6 a7 a8 (some (.tup [da,dc])) b10/\S'=s2) [D.tup [da,dc],.tup [dc,da],d1,d2] (λx hx ρ S' ⟨b10,hρ,hS⟩=>by
  subst hρ hS;obtain⟨b,hb⟩:=bo x (all x hx);obtain⟨g1,g2⟩:=hb S';have sb:=z7e (d:=.bl b) S' rfl;refine⟨L11 a0 a1 (some (.loc l)) a3 (some dv) (some (.int m)) a6 a7 a8 (some (.tup [da,dc])) (some x),S',?_,some x,rfl,rfl⟩;rw[kS,Rb];show z0r (L11 a0 a1 (some (.loc l)) a3 (some dv) (some (.int m)) a6 a7 a8 (some (.tup [da,dc])) (some x)) S'=_;rw[z0r,z96 (z8n (vL (by rw[call2 (x:=.bl b) (y:=.bl b) (by rw[z2Y (x:=dv) (y:=.int m) (z:=x) (vr rfl) (vr rfl) (vr rfl),g1]) (by rw[z2Y (x:=dv) (y:=.int m) (z:=x) (vr rfl) (vr rfl) (vr rfl),g2]),sb])))];rfl) (L11 a0 a1 (some (.loc l)) a3 (some dv) (some (.int m)) a6 a7 a8 (some (.tup [da,dc])) a10) s2 ⟨a10,rfl,rfl⟩;refine⟨b10,s2,?_,r1.trans r2⟩;rw[z0p,qC,z2x,ll,Rb];simp only[Rb];rw[lp,hρ,hS]
theorem zgg {n m w l:Nat} {v:List Int} (W:LW n v w) (h1:1<=m) (h8:m<=8) {L:List NQ} (hL:∀p∈L,PrQ n p) {s:Sto} (hs:Pot s l) (a0 a1 a3 a6 a7 a9 a10:Option D): ∃b9 b10 s',jD (L11 a0 a1 (some (.loc l)) a3 (some (rD v)) (some (.int m)) a6 a7 (some (.lst (L.map dQ))) a9 a10) s=.ok (.nx (L11 a0 a1 (some (.loc l)) a3 (some (rD v)) (some (.int m)) a6 a7 (some (.lst (L.map dQ))) b9 b10)) s'/\yQ s s' l:=by
 have th:=λ(p:NQ) (hp:PrQ n p) (s:Sto) (hs:Pot s l) (a8 a10:Option D)=>zax W h1 h8 hp hs a0 a1 a3 a6 a7 a8 a10;generalize rD v=dv at *;obtain⟨ρ',s',lp,b9,b10,hρ,hD⟩:=ju (all:=L.map dQ) (body:=λd ρ s=>(xK 9 d ρ s).bind fun ρ' s'=>z0p ρ' s') (fun ρ S'=>∃b9 b10,ρ=L11 a0 a1 (some (.loc l)) a3 (some dv) (some (.int m)) a6 a7 (some (.lst (L.map dQ))) b9 b10/\yQ s S' l) (L.map dQ) (λx hx ρ S' ⟨b9,b10,hρ,hD⟩=>by
  subst hρ;obtain⟨p,hp,rfl⟩:=_y.mp hx;obtain⟨c10,s2,e,d⟩:=th p (hL p hp) S' hD.pot (some (.lst (L.map dQ))) b10;refine⟨L11 a0 a1 (some (.loc l)) a3 (some dv) (some (.int m)) a6 a7 (some (.lst (L.map dQ))) (some (dQ p)) c10,s2,?_,_,_,rfl,hD.trans d⟩;rw[kS,Rb];exact e) (L11 a0 a1 (some (.loc l)) a3 (some dv) (some (.int m)) a6 a7 (some (.lst (L.map dQ))) a9 a10) s ⟨a9,a10,rfl,yQ.refl hs⟩;refine⟨b9,b10,s',?_,hD⟩;rw[jD,qC,ut (vr rfl),Rb,lp,hρ]
def ShL(ns:List Int)(ρ:Ev):Prop:=∃a1 a2 a3 a4 a5 a6 a7 a8 a9 a10,ρ=L11 (some (.scr (iL ns))) a1 a2 a3 a4 a5 a6 a7 a8 a9 a10
abbrev zcx:D->Ev->Sto->R Fl:=λd ρ s=>(xK 1 d ρ s).bind fun ρ' s'=>(zZ z0u (zZ z1k (zZ z10 (zZ z0E (zZ z0O (zZ z0U (zZ jB (zZ jK jD)))))))) ρ' s'
theorem zd2 (ns:List Int) (j:Nat) (ρ:Ev) (s:Sto) (h:ShL ns ρ):∃ ρ' s',zcx (.int j) ρ s=.ok (.nx ρ') s'/\ShL ns ρ':=by
 obtain⟨a1,a2,a3,a4,a5,a6,a7,a8,a9,a10,rfl⟩:=h;rw[show zcx (.int j) (L11 (some (.scr (iL ns))) a1 a2 a3 a4 a5 a6 a7 a8 a9 a10) s=(zZ z0u (zZ z1k (zZ z10 (zZ z0E (zZ z0O (zZ z0U (zZ jB (zZ jK jD)))))))) (L11 (some (.scr (iL ns))) (some (.int j)) a2 a3 a4 a5 a6 a7 a8 a9 a10) s from rfl];obtain⟨c,e1⟩:=zdU ns j s;obtain⟨q,e2⟩:=zgh c s;have hp:Pot (s++[[.int q]]) s.length:=⟨q,by simp⟩;have f2:z0u (L11 (some (.scr (iL ns))) (some (.int j)) a2 a3 a4 a5 a6 a7 a8 a9 a10) s=.ok (.nx (L11 (some (.scr (iL ns))) (some (.int j)) (some (.loc s.length)) a3 a4 a5 a6 a7 a8 a9 a10)) (s++[[.int q]]):=by rw[z0u,yO,xh (x:=.int c) (by rw[call2 (x:=.scr (iL ns)) (y:=.int j) (vr rfl) (vr rfl),e1]),e2];rfl
 generalize hsc:D.scr (iL ns)=sc at *;generalize s++[[D.int q]]=s1 at *;generalize s.length=l at *;obtain⟨x,s3,e3,x0,x3,d3⟩:=qp (f:=zd 2) (g:=eC (.int 3)) (far:=3) (ρ:=L11 (some sc) (some (.int j)) (some (.loc l)) a3 a4 a5 a6 a7 a8 a9 a10) hp (by decide) (z1A (by decide)) (vr rfl) rfl;have hn:Sz (x.toNat+2):=by unfold Sz;omega
 have en:(2:Int)+x=((x.toNat+2:Nat):Int):=by omega
 have f3:z1k (L11 (some sc) (some (.int j)) (some (.loc l)) a3 a4 a5 a6 a7 a8 a9 a10) s1=.ok (.nx (L11 (some sc) (some (.int j)) (some (.loc l)) (some (.int ((x.toNat+2:Nat):Int))) a4 a5 a6 a7 a8 a9 a10)) s3:=by rw[z1k,yO,z3d,z94,Rb,e3,Rb,kC,en];rfl
 generalize x.toNat+2=n at *;obtain⟨v,s4,e4,Ls,pos,d4⟩:=z4P d3.pot hn;obtain⟨w,W⟩:=Ls.lw pos;have f4:z10 (L11 (some sc) (some (.int j)) (some (.loc l)) (some (.int n)) a4 a5 a6 a7 a8 a9 a10) s3=.ok (.nx (L11 (some sc) (some (.int j)) (some (.loc l)) (some (.int n)) (some (rD v)) a5 a6 a7 a8 a9 a10)) s4:=by rw[z10,yO,call2 (x:=.loc l) (y:=.int n) (vr rfl) (vr rfl),e4];rfl
 obtain⟨y,s5,e5,y0,y8,d5⟩:=qp (f:=zd 2) (g:=eC (.int 8)) (far:=8) (ρ:=L11 (some sc) (some (.int j)) (some (.loc l)) (some (.int n)) (some (rD v)) a5 a6 a7 a8 a9 a10) d4.pot (by decide) (z1A (by decide)) (vr rfl) rfl;have em:(1:Int)+y=((y.toNat+1:Nat):Int):=by omega
 have m1:1<=y.toNat+1:=by omega
 have m8:y.toNat+1<=8:=by omega
 have f5:z0E (L11 (some sc) (some (.int j)) (some (.loc l)) (some (.int n)) (some (rD v)) a5 a6 a7 a8 a9 a10) s4=.ok (.nx (L11 (some sc) (some (.int j)) (some (.loc l)) (some (.int n)) (some (rD v)) (some (.int ((y.toNat+1:Nat):Int))) a6 a7 a8 a9 a10)) s5:=by rw[z0E,yO,z3d,z94,Rb,e5,Rb,kC,em];rfl
 generalize y.toNat+1=m at *;have vb:∀i∈v,i.natAbs<2 ^ 16:=λi hi=>by have:=Ls.bd i hi;omega
 have vl:v.length=n:=Ls.len;have hnv:Sz v.length:=by rw[vl];exact hn
 have mc:=z7w m8 hnv vb s5;have f6:z0O (L11 (some sc) (some (.int j)) (some (.loc l)) (some (.int n)) (some (rD v)) (some (.int m)) a6 a7 a8 a9 a10) s5=.ok (.nx (L11 (some sc) (some (.int j)) (some (.loc l)) (some (.int n)) (some (rD v)) (some (.int m)) (some (.lst ((zV yk (wL v m)).map dQ))) a7 a8 a9 a10)) s5:=by rw[z0O,yO,call2 (x:=rD v) (y:=.int m) (vr rfl) (vr rfl),mc];rfl
 obtain⟨b7,f7⟩:=zgA W m1 m8 (some sc) (some (.int j)) (some (.loc l)) (some (.int n)) a7 a8 a9 a10 s5;obtain⟨p,s6,f12,hpr,d6⟩:=zf7 (l:=l) d5.pot hn m8 (some sc) (some (.int j)) (some (rD v)) (some (.lst ((zV yk (wL v m)).map dQ))) b7 a8 a9 a10;obtain⟨L,hL,_,f13⟩:=zbI vl hn m8 hpr (z5l W m8) (some sc) (some (.int j)) (some (.loc l)) (some (rD v)) b7 a9 a10 s6;obtain⟨b9,b10,s7,f14,d7⟩:=zgg W m1 m8 hL d6.pot (some sc) (some (.int j)) (some (.int n)) (some (.lst ((zV yk (wL v m)).map dQ))) b7 a9 a10;have fin:=(zD f2).trans ((zD f3).trans ((zD f4).trans ((zD f5).trans ((zD f6).trans ((zD f7).trans ((zD f12).trans ((zD f13).trans f14)))))));exact⟨_,s7,fin,by subst hsc;exact⟨_,_,_,_,_,_,_,_,_,_,rfl⟩⟩
theorem zfj (ns:List Int):∃ ρ' s',z4W (L11 (some (.scr (iL ns))) none none none none none none none none none none) []=.ok (.nx ρ') s'/\ShL ns ρ':=by
 obtain⟨k,ek,hk⟩:=zdq ns.length 4;rw[show ((4:Nat):Int)=4 from rfl]at ek;obtain⟨ρ',s',e,h⟩:=ju (all:=vg k) (body:=zcx) (fun ρ _=>ShL ns ρ) (vg k) (λx hx ρ s hI=>by
  obtain⟨j,_,rfl⟩:=z6K hx;exact zd2 ns j ρ s hI) (L11 (some (.scr (iL ns))) none none none none none none none none none none) [] ⟨_,_,_,_,_,_,_,_,_,_,rfl⟩;refine⟨ρ',s',?_,h⟩;unfold z4W;rw[qC,uU (n:=k) (s1:=[]) (by omega) (by simp only[qw,zN,xk,z94,zb3,_av,Rb,xL,ye,_o,zay,z48,ek]),Rb];exact e
theorem zeo {a b:Int} (ha:0<=a/\a<=1000) (hb:0<=b/\b<=1000) (h:0<a):∃w,LW 2 [a,b] w:=SmL.lw (n:=2) (v:=[a,b]) ⟨rfl,by decide,by decide,λx hx=>by
  simp only[_h,_Z,_bs]at hx;rcases hx with rfl | rfl;·exact ha
  ·exact hb⟩ ⟨a,.head _,h⟩
theorem zfG:cls [1,9] 8=[]:=by decide +kernel
theorem zg8:cls [1,8] 8=[([0,1],[8,0])]:=by decide +kernel
theorem zgs (ρ:Ev) (s:Sto):z2p ρ s=.ok (.rt (.bl true)) s:=by
 obtain⟨w1,W1⟩:=zeo (a:=1) (b:=9) (by decide) (by decide) (by decide);obtain⟨w2,W2⟩:=zeo (a:=1) (b:=8) (by decide) (by decide) (by decide);have h1:=z4T W1 (m:=8) (by decide) (by decide) s;have h2:=z4T W2 (m:=8) (by decide) (by decide) s;rw[show fcD [1,9] 8=.non by unfold fcD;rw[zfG]]at h1;rw[show fcD [1,8] 8=.tup [.tup [.int 0,.int 1],.tup [.int 8,.int 0]] by unfold fcD;rw[zg8];rfl]at h2;have g1:zR [.tup [.int 1,.int 9],.int 8] s=.ok .non s:=h1;have g2:zR [.tup [.int 1,.int 8],.int 8] s=.ok (.tup [.tup [.int 0,.int 1],.tup [.int 8,.int 0]]) s:=h2;have tp:∀x y:D,vA (za (eC x) (za (eC y) zi)) ρ s=.ok (.tup [x,y]) s:=λx y=>z6f (zY rfl (zY rfl z1s)) (by simp);have i1:dIs .non .non s=.ok (.bl true) s:=by kernel_rfl
 have i2:dEq (.tup [.tup [.int 0,.int 1],.tup [.int 8,.int 0]]) (.tup [.tup [.int 0,.int 1],.tup [.int 8,.int 0]]) s=.ok (.bl true) s:=by kernel_rfl
 have t4:vA (za (vA (za (eC (.int 0)) (za (eC (.int 1)) zi))) (za (vA (za (eC (.int 8)) (za (eC (.int 0)) zi))) zi)) ρ s=.ok (.tup [.tup [.int 0,.int 1],.tup [.int 8,.int 0]]) s:=z6f (zY (tp _ _) (zY (tp _ _) z1s)) (by simp);rw[z2p,wS,z1Z,op2 (x:=.non) (y:=.non) (by rw[call2 (x:=.tup [.int 1,.int 9]) (y:=.int 8) (tp _ _) rfl,g1]) rfl,i1,Rb];simp only[];rw[op2 (x:=.tup [.tup [.int 0,.int 1],.tup [.int 8,.int 0]]) (by rw[call2 (x:=.tup [.int 1,.int 8]) (y:=.int 8) (tp _ _) rfl,g2]) t4,i2];rfl
theorem zag:∀ns:List Int,ns.length<=63->∃s',zcC [.scr (ns.map D.int)] []=.ok (.bl true) s':=λns hn=>by
 obtain⟨ρ',s',e,h⟩:=zfj ns;refine⟨s',?_⟩;have st:zK ["_law_script","_law_at","_law_pot_here","_law_size","_law_lot","_law_number","_law_some","_law_turn","_law_pairs","_law_pair","_law_thing"] [.scr (ns.map D.int)]=L11 (some (.scr (iL ns))) none none none none none none none none none none:=rfl;unfold zcC Mof zaF;rw[_g (by rfl),st,zD e,zgs]
end K52
namespace K52
open L2 Dd Pg
theorem all_mk {P:Program} {w:World} {K:W.Frag} {h:Heap} {mg:Str->Option Value} {fa:Addr} (X:K.In h) (G:h.Ns mainGlobals mg) (hfa:mg "law"=some (.ref fa)) (e:z9D askQ K=valS askQ w) : ∃fd:FuncData,(∀(s:Shared) (v:Value),BindsTo s fd ⟨[v],[]⟩ [("_law_script",v)])/\∀base:Heap,K.In base->base.Ns mainGlobals mg->z3h P w K mg base CX0 8 fa fd ["_law_script"] (zcv K):=by
 obtain⟨f0,d0,a0,F0⟩:=ym X G e 0 rfl;obtain⟨f1,d1,a1,F1⟩:=ym X G e 1 rfl;obtain⟨f2,d2,a2,F2⟩:=ym X G e 2 rfl;obtain⟨f3,d3,a3,F3⟩:=ym X G e 3 rfl;obtain⟨f4,d4,a4,F4⟩:=ym X G e 4 rfl;obtain⟨f5,d5,a5,F5⟩:=ym X G e 5 rfl;obtain⟨f6,d6,a6,F6⟩:=ym X G e 6 rfl;obtain⟨f7,d7,a7,F7⟩:=ym X G e 7 rfl;obtain⟨f8,d8,a8,F8⟩:=ym X G e 8 rfl;obtain⟨f9,d9,a9,F9⟩:=ym X G e 9 rfl;obtain⟨f10,d10,a10,F10⟩:=ym X G e 10 rfl;obtain⟨f11,d11,a11,F11⟩:=ym X G e 11 rfl;obtain⟨f12,d12,a12,F12⟩:=ym X G e 12 rfl;obtain⟨f13,d13,a13,F13⟩:=ym X G e 13 rfl;obtain⟨f14,d14,a14,F14⟩:=ym X G e 14 rfl;obtain⟨f15,d15,a15,F15⟩:=ym X G e 15 rfl;obtain⟨f16,d16,a16,F16⟩:=ym X G e 16 rfl;obtain⟨f17,d17,a17,F17⟩:=ym X G e 17 rfl;obtain⟨f18,d18,a18,F18⟩:=ym X G e 18 rfl;obtain⟨f19,d19,a19,F19⟩:=ym X G e 19 rfl;obtain⟨f20,d20,a20,F20⟩:=ym X G e 20 rfl;obtain⟨f21,d21,a21,F21⟩:=ym X G e 21 rfl;obtain⟨f22,d22,a22,F22⟩:=ym X G e 22 rfl;obtain⟨f23,d23,a23,F23⟩:=ym X G e 23 rfl;obtain⟨f24,d24,a24,F24⟩:=ym X G e 24 rfl;obtain⟨f25,d25,a25,F25⟩:=ym X G e 25 rfl;obtain⟨f26,d26,a26,F26⟩:=ym X G e 26 rfl;obtain⟨f27,d27,a27,F27⟩:=ym X G e 27 rfl;obtain⟨f28,d28,a28,F28⟩:=ym X G e 28 rfl;obtain⟨f29,d29,a29,F29⟩:=ym X G e 29 rfl;have e0:=hfa.symm.trans a29;cases e0;obtain⟨oc,od,kV,doc,pm,an,cdv,ct,osl,rfl,hl,hc⟩:=F29.ex;have T:Txt mg:=⟨z5v X G e 0 rfl,z5v X G e 1 rfl,z5v X G e 2 rfl,z5v X G e 3 rfl,vf X G e 0 rfl,vf X G e 1 rfl,vf X G e 2 rfl,vf X G e 3 rfl,vf X G e 4 rfl,vf X G e 5 rfl,vf X G e 6 rfl,vf X G e 7 rfl,vf X G e 8 rfl,vf X G e 9 rfl,vf X G e 10 rfl,vf X G e 11 rfl,vf X G e 12 rfl,vf X G e 13 rfl,vf X G e 14 rfl⟩;refine⟨W.fnOf "law" "law" (kc z1I) (uC z1I) (zo z1I) .none kV doc pm an cdv ct,λs v=>.of_eq rfl,λbase _ _=>?_⟩;have H0:=z4e (P:=P) (w:=w) (base:=base) T F0 a0;have H1:=z45 (P:=P) (w:=w) (base:=base) T F1 a1;have H2:=jr (P:=P) (w:=w) (base:=base) T F2 a2;have H3:=z4p (P:=P) (w:=w) (base:=base) T F3 a3;have H4:=z6H (P:=P) (w:=w) (base:=base) T F4 a4;have H5:=z6t (P:=P) (w:=w) (base:=base) T F5 a5;have H6:=z7i (P:=P) (w:=w) (base:=base) T F6 a6;have H7:=z0f (P:=P) (w:=w) (base:=base) T F7 a7;have H8:=z4j (P:=P) (w:=w) (base:=base) T F8 a8;have H9:=z2c (P:=P) (w:=w) (base:=base) T F9 a9;have H10:=z1p (P:=P) (w:=w) (base:=base) T F10 a10;have H11:=z3B (P:=P) (w:=w) (base:=base) T F11 a11;have H12:=z1D (P:=P) (w:=w) (base:=base) T F12 a12;have H13:=z1u (P:=P) (w:=w) (base:=base) T F13 a13 H0;have H14:=z17 (P:=P) (w:=w) (base:=base) T F14 a14 H0;have H15:=qJ (P:=P) (w:=w) (base:=base) T F15 a15 H2 H3 H4;have H16:=z2G (P:=P) (w:=w) (base:=base) T F16 a16 H10;have H17:=jG (P:=P) (w:=w) (base:=base) T F17 a17 H9;have H18:=z0a (P:=P) (w:=w) (base:=base) T F18 a18 H11 H12;have H19:=jN (P:=P) (w:=w) (base:=base) T F19 a19 H10 H11;have H20:=z2f (P:=P) (w:=w) (base:=base) T F20 a20 H9;have H21:=z67 (P:=P) (w:=w) (base:=base) T F21 a21 H1 H13;have H22:=z2U (P:=P) (w:=w) (base:=base) T F22 a22 H13;have H23:=z4s (P:=P) (w:=w) (base:=base) T F23 a23 H21;have H24:=z1y (P:=P) (w:=w) (base:=base) T F24 a24 H23;have H25:=vR (P:=P) (w:=w) (base:=base) T F25 a25 H14 H24;have H26:=z3H (P:=P) (w:=w) (base:=base) T F26 a26 H15 H25;have H27:=z4A (P:=P) (w:=w) (base:=base) T F27 a27 H3 H22 H25;have H28:=z11 (P:=P) (w:=w) (base:=base) T F28 a28 H5 H6 H15 H25;have H29:=z64 (P:=P) (w:=w) (base:=base) T F29 a29 H7 H8 H9 H16 H17 H18 H19 H20 H26 H27 H28;exact zfe (x:="law") H29 zag
theorem boot_:∀w:World,(W.fencedOpening treeTable PySem.Challenge.pw_drawndown_k52_clashes w 3658).map (λs=>(s.heap,s.gens,s.drawn,s.toks))=some (W.boot_heap w.params,Array.mk [],W.boot_drawn,W.boot_toks):= W.boot_open (by kernel_rfl) (by decide) (λs=>by kernel_rfl)
theorem left_:W.LeftO PySem.Challenge.pw_drawndown_k52_clashes qv looseQ xtQ (obsS askQ) (valS askQ) 3658:=z6z boot_ (λw os=>z65 (f:=λs=>(seenQ s,obsS askQ s)) (zhg w) (bsz w) (z90 (z9z w os) (za1 w os)))
end K52
open PySem.W
set_option maxRecDepth 100000 in
set_option maxHeartbeats 0 in
theorem PySem.Challenge.cw_drawndown_k52_clashes_holds : PySem.Challenge.rw_drawndown_k52_clashes.Holds := by
  w_on; refine holds_law K52.said_ fun said => ?_
  refine holds_open (q := K52.qv) (loose := K52.looseQ) (Xt := K52.xtQ) (XP := XL K52.qv K52.lvQ) (Yf := Dd.obsS K52.askQ) (Ya := Dd.valS K52.askQ) (YP := Dd.saysS K52.askQ) (N := 3658) K52.left_ (Dd.zbE K52.askQ) (Dd.z6B K52.askQ) (λs e => xl_of s (Bool.and_eq_true_iff.mp e).1) XL.keeps (by rfl) (by rfl) (by rfl) (λs e => recFacts_of (Bool.and_eq_true_iff.mp e).2) (by rfl) (by first | assumption | decide +kernel) (by decide +kernel) ⟨rfl, rfl, rfl, rfl, rfl, by decide +kernel⟩ ?hw ?hc
  (case hw => w_witness2)
  refine Dd.walkY (l := PySem.Challenge.rw_drawndown_k52_clashes) (n := 63) (k := 8) (x := "_law_script") rfl (by decide) (by decide) rfl ⟨rfl, by decide, by decide, rfl⟩ ?F
  case F =>
    intro w mg fa h Yy G hmg XP
    obtain⟨K, KX, e⟩ := Yy
    exact⟨K, KX, K52.all_mk KX G hmg e ⟩
